/-
  bytes.Count and bytes.Equal at the program's tables; isConstant, isLike, isProjection of the program.
-/
import Derived.Test.YtclhcnfgpkhplaaKinds15
import Derived.Laws.BytesArg
import Derived.Lib.Bytes
import Derived.Lib.Bytealg
import Derived.Lib.Strings
namespace Go.Proofs.Ytclhcnfgpkhplaa
open Go.RowKit

theorem byte_inj {x y : Int} (hx : 0 ≤ x ∧ x < 256) (hy : 0 ≤ y ∧ y < 256) (h : UInt8.ofNat x.toNat = UInt8.ofNat y.toNat) : x = y := by
  have := congrArg UInt8.toNat h
  simp only [UInt8.toNat_ofNat'] at this
  omega
theorem bytes_inj : ∀ {xs ys : List Int}, (∀ x, x ∈ xs → 0 ≤ x ∧ x < 256) → (∀ y, y ∈ ys → 0 ≤ y ∧ y < 256) → Lib.bytesOf xs = Lib.bytesOf ys → xs = ys
  | [], [], _, _, _ => rfl
  | [], _ :: _, _, _, h => by simp [Lib.bytesOf] at h
  | _ :: _, [], _, _, h => by simp [Lib.bytesOf] at h
  | x :: xs, y :: ys, hx, hy, h => by
    simp only [Lib.bytesOf, List.map_cons, List.cons.injEq] at h
    rw [byte_inj (hx x List.mem_cons_self) (hy y List.mem_cons_self) h.1, bytes_inj (xs := xs) (ys := ys) (fun z hz => hx z (List.mem_cons_of_mem _ hz)) (fun z hz => hy z (List.mem_cons_of_mem _ hz)) h.2]
theorem rowF_mem {G : Nat → Int} {q : Nat} (h : ∀ i, i < q → 0 ≤ G i ∧ G i < 256) : ∀ x, x ∈ rowF G q → 0 ≤ x ∧ x < 256 := fun x hx => by
  obtain ⟨i, hi, rfl⟩ := List.mem_map.1 hx
  exact h i (List.mem_range.1 hi)
theorem rowF_getD (G : Nat → Int) (q i : Nat) (h : i < q) : (rowF G q).getD i 0 = G i := rowF_at G q i h
theorem rowF_tab {G : Nat → Int} {tab : List Int} {q : Nat} (hq : tab.length = q) (h : ∀ i, i < q → G i = intN tab i) : rowF G q = tab := by
  subst hq
  apply List.ext_getElem?
  intro i
  by_cases hi : i < tab.length
  · rw [List.getElem?_eq_getElem (by rw [rowF_len]; exact hi), List.getElem?_eq_getElem hi, ← intN_at _ _ (by rw [rowF_len]; exact hi), rowF_at _ _ _ hi, h i hi, intN_at _ _ hi]
  · rw [List.getElem?_eq_none (by rw [rowF_len]; omega), List.getElem?_eq_none (by omega)]

set_option maxHeartbeats 1000000 in
set_option maxRecDepth 100000 in
theorem bytesEqual (b1 b2 q1 q2 : Nat) (G1 G2 : Nat → Int) (bb : Bool) (w : World) (hT1 : TabAt w b1 G1) (hT2 : TabAt w b2 G2) (h1 : q1 ≤ 64) (h2 : q2 ≤ 64) (hG1 : ∀ i, i < q1 → 0 ≤ G1 i ∧ G1 i < 256) (hG2 : ∀ i, i < q2 → 0 ≤ G2 i ∧ G2 i < 256) (hb : Tells bb (rowF G1 q1 = rowF G2 q2)) :
    Calls Try.prog 187 #[.slice (some ⟨b1, 0, none⟩) q1 q1, .slice (some ⟨b2, 0, none⟩) q2 q2] w fun e w' => e = .returned (.bool bb) ∧ w = w' := by
  have c1 := run_convert_bytes_arg (P := Try.prog) w 103 5 Try.underlying103 Try.underlying5 b1 0 q1 q1 (rowF G1 q1) (rowF_len _ _) (fun i hi => by rw [rowF_getD _ _ _ hi, Nat.zero_add]; exact hT1.c i (by omega)) 9 Try.underlying9
  have c2 := run_convert_bytes_arg (P := Try.prog) w 103 5 Try.underlying103 Try.underlying5 b2 0 q2 q2 (rowF G2 q2) (rowF_len _ _) (fun i hi => by rw [rowF_getD _ _ _ hi, Nat.zero_add]; exact hT2.c i (by omega)) 9 Try.underlying9
  have e : bb = ((strOfNums (rowF G1 q1)).toList == (strOfNums (rowF G2 q2)).toList) := by
    rw [Lib.strOfNums_toList, Lib.strOfNums_toList]
    by_cases he : rowF G1 q1 = rowF G2 q2
    · rw [hb.is_true he, he, beq_self_eq_true]
    · rw [hb.is_false he]
      symm
      rw [beq_eq_false_iff_ne]
      exact fun h => he (bytes_inj (rowF_mem hG1) (rowF_mem hG2) h)
  subst e
  clear hb hG1 hG2 hT1 hT2
  generalize rowF G1 q1 = xs at *
  generalize rowF G2 q2 = ys at *
  go_enter Try.func187, Try.ntmps187
  go_wp2
  go_ret
  exact ⟨rfl, rfl⟩

theorem bytesCount (b q c : Nat) (G : Nat → Int) (d : Nat) (w : World) (hT : TabAt w b G) (hq : q ≤ 64) :
    Calls Try.prog 169 #[.slice (some ⟨b, 0, none⟩) q c, .slice (some ⟨b, 0, none⟩) 1 d] w fun e w' => e = .returned (.int .i64 (Lib.countByte (Lib.bytesOf (rowF G q)) (G 0).toNat.toUInt8 : Nat)) ∧ w = w' := by
  refine (Try.bytes_Count_one b 0 q c b 0 d (rowF G q) (G 0) w (rowF_len _ _) (fun i hi => by rw [rowF_getD _ _ _ hi, Nat.zero_add]; exact hT.c i (by omega)) (hT.c 0 (by omega))).mono ?_
  rintro e w' ⟨rfl, rfl⟩
  exact ⟨rfl, rfl⟩

theorem count_all {G : Nat → Int} {q : Nat} (h0 : 0 < q) (hG : ∀ i, i < q → 0 ≤ G i ∧ G i < 256) : Lib.countByte (Lib.bytesOf (rowF G q)) (G 0).toNat.toUInt8 = q ↔ ∀ i, i < q → G i = G 0 := by
  have hl : (Lib.bytesOf (rowF G q)).length = q := by simp [Lib.bytesOf, rowF_len]
  unfold Lib.countByte
  conv => lhs; rhs; rw [← hl]
  rw [List.count_eq_length]
  constructor
  · intro h i hi
    have := h (UInt8.ofNat (G i).toNat) (by
      unfold Lib.bytesOf
      exact List.mem_map.2 ⟨G i, List.mem_map.2 ⟨i, List.mem_range.2 hi, rfl⟩, rfl⟩)
    exact (byte_inj (hG 0 h0) (hG i hi) this).symm
  · intro h u hu
    unfold Lib.bytesOf at hu
    obtain ⟨x, hx, rfl⟩ := List.mem_map.1 hu
    obtain ⟨i, hi, rfl⟩ := List.mem_map.1 hx
    rw [h i (List.mem_range.1 hi)]

set_option linter.unusedSimpArgs false in
set_option maxHeartbeats 1000000 in
set_option maxRecDepth 100000 in
theorem isConstant (s r b q : Nat) (G : Nat → Int) (tab : List Int) (bb : Bool) (w : World) (hT : TabAt w b G) (ho : OpOk s r tab) (hq : tab.length = q) (hG : ∀ i, i < q → G i = intN tab i) (hb : Tells bb (ConstP tab)) :
    Calls Try.prog 127 #[.agg #[.int .i64 (s : Int), .int .i64 (r : Int), .slice (some ⟨b, 0, none⟩) q q]] w fun e w' => e = .returned (.bool bb) ∧ Below w.heap.size w w' := by
  have h1 : 1 ≤ s := by have := ho.1.1; omega
  have hs4 : s ≤ 4 := by have := ho.1.2; omega
  have hr3 : r ≤ 3 := by have := ho.2.1.2; omega
  have hlen : tab.length = s ^ r := by have := ho.2.2.1; simp only [Int.toNat_natCast] at this; omega
  have hq64 : q ≤ 64 := by rw [← hq, hlen]; exact (pow_le3 h1 hs4 hr3).1
  have hq0 : 0 < q := by rw [← hq, hlen]; exact (pow_le3 h1 hs4 hr3).2
  have hq1 : (1 : Int) ≤ (q : Int) := by omega
  have hGB : ∀ i, i < q → 0 ≤ G i ∧ G i < 256 := fun i hi => by
    have := ho.2.2.2 i (by rw [hq]; exact hi)
    rw [hG i hi]; omega
  obtain ⟨cnt, hcnt⟩ : ∃ c : Nat, Lib.countByte (Lib.bytesOf (rowF G q)) (G 0).toNat.toUInt8 = c := ⟨_, rfl⟩
  have HBE : Hid (((cnt : Int) == (q : Int)) = bb) := Lib.hid (by
    have hc := count_all hq0 hGB
    rw [hcnt] at hc
    by_cases h : ConstP tab
    · have : cnt = q := hc.2 fun i hi => by rw [hG i hi, hG 0 hq0]; exact h i (by rw [hq]; exact hi)
      rw [hb.is_true h, this, beq_self_eq_true]
    · rw [hb.is_false h, beq_eq_false_iff_ne]
      intro e
      exact h fun i hi => by
        have := hc.1 (by omega) i (by rw [← hq]; exact hi)
        rwa [hG i (by rw [← hq]; exact hi), hG 0 hq0] at this)
  have HC := Lib.hid hcnt
  have HA : Hid (Below w.heap.size w (w.alloc (.cells #[.int .i64 s, .int .i64 r, .slice (some ⟨b, 0, none⟩) q q] 105))) := Lib.hid ((Below.refl _ _).alloc (Nat.le_refl _) _)
  have HTB := Lib.hid (hT.below HA.out)
  have HBX := Lib.hid (Box.new 105 w #[.int .i64 s, .int .i64 r, .slice (some ⟨b, 0, none⟩) q q])
  have c2 := HBX.out.c 2 rfl
  clear hT ho hq hG hb hlen hcnt hGB
  go_enter Try.func127, Try.ntmps127
  go_wp2
  go_quiet ((go_at_call 169; exact QW.calls_same ((HC.out ▸ bytesCount b q q G _ _ (HTB.out.below (((QW.refl _).drewN _).below _)) hq64 :))))
  go_wp2
  go_ret
  exact ⟨ret_bool HBE.out, HA.out.trans (((QW.refl _).drewN _).below _)⟩

set_option linter.unusedSimpArgs false in
set_option maxHeartbeats 1000000 in
set_option maxRecDepth 100000 in
theorem isLike (s1 r1 b1 q1 s2 r2 b2 q2 : Nat) (G1 G2 : Nat → Int) (bb : Bool) (w : World) (hT1 : TabAt w b1 G1) (hT2 : TabAt w b2 G2) (h1 : q1 ≤ 64) (h2 : q2 ≤ 64) (hG1 : ∀ i, i < q1 → 0 ≤ G1 i ∧ G1 i < 256) (hG2 : ∀ i, i < q2 → 0 ≤ G2 i ∧ G2 i < 256) (hb : Tells bb (r1 = r2 ∧ rowF G1 q1 = rowF G2 q2)) :
    Calls Try.prog 167 #[.agg #[.int .i64 (s1 : Int), .int .i64 (r1 : Int), .slice (some ⟨b1, 0, none⟩) q1 q1], .agg #[.int .i64 (s2 : Int), .int .i64 (r2 : Int), .slice (some ⟨b2, 0, none⟩) q2 q2]] w fun e w' => e = .returned (.bool bb) ∧ Below w.heap.size w w' := by
  have HA : Hid (Below w.heap.size w ((w.alloc (.cells #[.int .i64 s1, .int .i64 r1, .slice (some ⟨b1, 0, none⟩) q1 q1] 105)).alloc (.cells #[.int .i64 s2, .int .i64 r2, .slice (some ⟨b2, 0, none⟩) q2 q2] 105))) := Lib.hid (((Below.refl _ _).alloc (Nat.le_refl _) _).alloc (by simp) _)
  have HT1 := Lib.hid (hT1.below HA.out)
  have HT2 := Lib.hid (hT2.below HA.out)
  have HG1 := Lib.hid hG1
  have HG2 := Lib.hid hG2
  have HB := Lib.hid hb
  clear hT1 hT2 hG1 hG2 hb
  by_cases hr : r1 = r2
  · have hre : ((r1 : Int) == (r2 : Int)) = true := by simp [hr]
    have HR := Lib.hid hr
    clear hr
    go_enter Try.func167, Try.ntmps167
    go_wp2_with fail
    refine (bytesEqual b1 b2 q1 q2 G1 G2 bb _ HT1.out HT2.out h1 h2 HG1.out HG2.out ⟨fun h => (HB.out.1 h).2, fun h => HB.out.2 ⟨HR.out, h⟩⟩).mono ?_
    rintro e w2 ⟨rfl, rfl⟩
    go_wp2
    go_ret
    exact ⟨rfl, HA.out⟩
  · have hre : ((r1 : Int) == (r2 : Int)) = false := by simp; omega
    have HF := Lib.hid (HB.out.is_false fun h => hr h.1)
    clear hr
    go_enter Try.func167, Try.ntmps167
    go_wp2
    go_ret
    exact ⟨ret_bool HF.out.symm, HA.out⟩

set_option linter.unusedSimpArgs false in
set_option maxHeartbeats 1000000 in
set_option maxRecDepth 100000 in
theorem isProjection (s r b q : Nat) (G : Nat → Int) (tab : List Int) (bb : Bool) (w : World) (hT : TabAt w b G) (ho : OpOk s r tab) (hq : tab.length = q) (hG : ∀ i, i < q → G i = intN tab i) (hb : Tells bb (FlatP s r tab)) :
    Calls Try.prog 126 #[.agg #[.int .i64 (s : Int), .int .i64 (r : Int), .slice (some ⟨b, 0, none⟩) q q]] w fun e w' => e = .returned (.bool bb) ∧ Below w.heap.size w w' := by
  have h1 : 1 ≤ s := by have := ho.1.1; omega
  have hs4 : s ≤ 4 := by have := ho.1.2; omega
  have hr1 : 1 ≤ r := by have := ho.2.1.1; omega
  have hr3 : r ≤ 3 := by have := ho.2.1.2; omega
  have hlen : tab.length = s ^ r := by have := ho.2.2.1; simp only [Int.toNat_natCast] at this; omega
  have hq64 : q ≤ 64 := by rw [← hq, hlen]; exact (pow_le3 h1 hs4 hr3).1
  have HQP : Hid (s ^ r = q) := Lib.hid (by rw [← hlen, hq])
  have HTA : Hid (rowF G q = tab) := Lib.hid (rowF_tab hq hG)
  have HGB : Hid (∀ i, i < q → 0 ≤ G i ∧ G i < 256) := Lib.hid fun i hi => by
    have := ho.2.2.2 i (by rw [hq]; exact hi)
    rw [hG i hi]; omega
  have HTB := Lib.hid hT
  have HB := Lib.hid hb
  have HA : Hid (Below w.heap.size w (w.alloc (.cells #[.int .i64 s, .int .i64 r, .slice (some ⟨b, 0, none⟩) q q] 105))) := Lib.hid ((Below.refl _ _).alloc (Nat.le_refl _) _)
  have HBX := Lib.hid (Box.new 105 w #[.int .i64 s, .int .i64 r, .slice (some ⟨b, 0, none⟩) q q])
  clear hT ho hq hG hb hlen
  go_enter Try.func126, Try.ntmps126
  go_wp2
  go_loopw [6] (fun i wr => ∃ k : Nat, k ≤ r ∧ i = .int .i64 k ∧ (∀ z : Nat, z < k → tab ≠ projL s r z) ∧ wr.cell? ⟨w.heap.size, 0, none⟩ = some (.int .i64 s) ∧ wr.cell? ⟨w.heap.size, 1, none⟩ = some (.int .i64 r) ∧ wr.cell? ⟨w.heap.size, 2, none⟩ = some (.slice (some ⟨b, 0, none⟩) q q) ∧ Below w.heap.size w wr) (fun i _ => r - (intOf i).toNat)
  case atStart => exact ⟨0, Nat.zero_le _, rfl, fun j hj => absurd hj (Nat.not_lt_zero _), HBX.out.c 0 rfl, HBX.out.c 1 rfl, HBX.out.c 2 rfl, HA.out⟩
  case round =>
    obtain ⟨p0, hk, rfl, hall, cb0, cb1, cb2, hbel⟩ := hrel
    have HX := Lib.hid hall
    have HW := Lib.hid hbel
    clear hall hbel
    by_cases hp : p0 < r
    case neg =>
      obtain rfl : p0 = r := by omega
      have HF := Lib.hid (HB.out.is_false fun ⟨z, hz, e⟩ => HX.out z hz e)
      go_wp2
      go_ret
      exact ⟨ret_bool HF.out.symm, HW.out⟩
    have hp' : (p0 : Int) < (r : Int) := by omega
    have HDB : Hid (∀ i, 0 ≤ intN (digs s r i) p0 ∧ intN (digs s r i) p0 < 256) := Lib.hid fun i => by
      have := (digs_tup s r i h1).2 p0 (by rw [digs_len]; exact hp)
      omega
    by_cases hpj : tab = projL s r p0
    · have HLB : Hid (Tells true (tab = rowF (fun i => intN (digs s r i) p0) q)) := Lib.hid (Tells.yes (by rw [← HQP.out]; exact hpj))
      have HF := Lib.hid (HB.out.is_true ⟨p0, hp, hpj⟩)
      clear hpj
      go_wp2
      refine wp_region_noPanic ?_
      refine wp_region_inv (fun w' => w'.cell? ⟨w.heap.size, 0, none⟩ = some (.int .i64 s) ∧ w'.cell? ⟨w.heap.size, 1, none⟩ = some (.int .i64 r) ∧ w'.cell? ⟨w.heap.size, 2, none⟩ = some (.slice (some ⟨b, 0, none⟩) q q) ∧ Below w.heap.size w w') (fun w1 w2 => Below w1.heap.size w1 w2) (fun k vv ww => match k with
        | 0 => vv = .agg #[.int .i64 (s : Int), .int .i64 (r : Int), .slice (some ⟨b, 0, none⟩) q q]
        | 1 => vv = .pointer (some ⟨w.heap.size, 0, none⟩)
        | 2 => vv = .int .i64 (s : Int)
        | 3 => vv = .pointer (some ⟨w.heap.size, 1, none⟩)
        | 4 => vv = .int .i64 (r : Int)
        | 5 => vv = .int .i64 (p0 : Int)
        | 6 => ∃ (b' : Nat) (F' : Nat → Int), vv = .agg #[.int .i64 (s : Int), .int .i64 (r : Int), .slice (some ⟨b', 0, none⟩) q q] ∧ TabAt ww b' F' ∧ ∀ i, i < q → F' i = intN (digs s r i) p0
        | 7 => vv = .bool true
        | _ => True) [(7, some 16), (6, some 15), (5, some 14), (4, some 13), (3, some 12), (2, some 11), (1, some 10), (0, some 9)] 8 (by kernel_rfl) rfl (by kernel_rfl) (by kernel_rfl) (by kernel_rfl) ?_ ?_ ?_ ?_
      · intro k v w1 w2 hN h
        match k, h with
        | 0, h => exact h
        | 1, h => exact h
        | 2, h => exact h
        | 3, h => exact h
        | 4, h => exact h
        | 5, h => exact h
        | 6, h => exact by obtain ⟨b', F', e, ht, hf⟩ := h; exact ⟨b', F', e, ht.below hN, hf⟩
        | 7, h => exact h
        | k + 8, _ => exact trivial
      · exact ⟨cb0, cb1, cb2, HW.out.trans (((QW.refl wr).drew.below _).mono HW.out.size)⟩
      · refine ⟨⟨⟨⟨⟨⟨⟨⟨trivial, ?_⟩, ?_⟩, ?_⟩, ?_⟩, ?_⟩, ?_⟩, ?_⟩, ?_⟩
        · refine StepOk.intro (some 9) rfl rfl (fun x w1 hS hdep K hK => ?_)
          clear hdep
          have hSS := Lib.hid hS
          obtain ⟨c0, c1, c2, hB⟩ := hS
          refine ⟨?_⟩
          simp only [puts, Act.put, List.setIfInBounds_toArray, List.set_cons_zero, List.set_cons_succ]
          go_simp
          exact hK.out _ (.agg #[.int .i64 (s : Int), .int .i64 (r : Int), .slice (some ⟨b, 0, none⟩) q q]) _ (by simp only [puts, Act.put, List.setIfInBounds_toArray, List.set_cons_zero, List.set_cons_succ]) (Below.refl _ _) (hSS.out) (rfl)
        · refine StepOk.intro (some 10) rfl rfl (fun x w1 hS hdep K hK => ?_)
          clear hdep
          have hSS := Lib.hid hS
          obtain ⟨c0, c1, c2, hB⟩ := hS
          refine ⟨?_⟩
          simp only [puts, Act.put, List.setIfInBounds_toArray, List.set_cons_zero, List.set_cons_succ]
          go_simp
          exact hK.out _ (.pointer (some ⟨w.heap.size, 0, none⟩)) _ (by simp only [puts, Act.put, List.setIfInBounds_toArray, List.set_cons_zero, List.set_cons_succ]) (Below.refl _ _) (hSS.out) (rfl)
        · refine StepOk.intro (some 11) rfl rfl (fun x w1 hS hdep K hK => ?_)
          have h1 : x 1 = .pointer (some ⟨w.heap.size, 0, none⟩) := hdep 1 (by kernel_rfl)
          clear hdep
          have hSS := Lib.hid hS
          obtain ⟨c0, c1, c2, hB⟩ := hS
          refine ⟨?_⟩
          simp only [puts, Act.put, List.setIfInBounds_toArray, List.set_cons_zero, List.set_cons_succ, h1]
          go_simp
          exact hK.out _ (.int .i64 (s : Int)) _ (by simp only [puts, Act.put, List.setIfInBounds_toArray, List.set_cons_zero, List.set_cons_succ, h1]) (Below.refl _ _) (hSS.out) (rfl)
        · refine StepOk.intro (some 12) rfl rfl (fun x w1 hS hdep K hK => ?_)
          clear hdep
          have hSS := Lib.hid hS
          obtain ⟨c0, c1, c2, hB⟩ := hS
          refine ⟨?_⟩
          simp only [puts, Act.put, List.setIfInBounds_toArray, List.set_cons_zero, List.set_cons_succ]
          go_simp
          exact hK.out _ (.pointer (some ⟨w.heap.size, 1, none⟩)) _ (by simp only [puts, Act.put, List.setIfInBounds_toArray, List.set_cons_zero, List.set_cons_succ]) (Below.refl _ _) (hSS.out) (rfl)
        · refine StepOk.intro (some 13) rfl rfl (fun x w1 hS hdep K hK => ?_)
          have h3 : x 3 = .pointer (some ⟨w.heap.size, 1, none⟩) := hdep 3 (by kernel_rfl)
          clear hdep
          have hSS := Lib.hid hS
          obtain ⟨c0, c1, c2, hB⟩ := hS
          refine ⟨?_⟩
          simp only [puts, Act.put, List.setIfInBounds_toArray, List.set_cons_zero, List.set_cons_succ, h3]
          go_simp
          exact hK.out _ (.int .i64 (r : Int)) _ (by simp only [puts, Act.put, List.setIfInBounds_toArray, List.set_cons_zero, List.set_cons_succ, h3]) (Below.refl _ _) (hSS.out) (rfl)
        · refine StepOk.intro (some 14) rfl rfl (fun x w1 hS hdep K hK => ?_)
          clear hdep
          have hSS := Lib.hid hS
          obtain ⟨c0, c1, c2, hB⟩ := hS
          refine ⟨?_⟩
          simp only [puts, Act.put, List.setIfInBounds_toArray, List.set_cons_zero, List.set_cons_succ]
          go_simp
          exact hK.out _ (.int .i64 (p0 : Int)) _ (by simp only [puts, Act.put, List.setIfInBounds_toArray, List.set_cons_zero, List.set_cons_succ]) (Below.refl _ _) (hSS.out) (rfl)
        · refine StepOk.intro (some 15) rfl rfl (fun x w1 hS hdep K hK => ?_)
          have h2 : x 2 = .int .i64 (s : Int) := hdep 2 (by kernel_rfl)
          have h4 : x 4 = .int .i64 (r : Int) := hdep 4 (by kernel_rfl)
          have h5 : x 5 = .int .i64 (p0 : Int) := hdep 5 (by kernel_rfl)
          clear hdep
          have hSS := Lib.hid hS
          obtain ⟨c0, c1, c2, hB⟩ := hS
          refine ⟨?_⟩
          simp only [puts, Act.put, List.setIfInBounds_toArray, List.set_cons_zero, List.set_cons_succ, h2, h4, h5]
          go_simp; go_at_call 168; refine (projectionTable s r q p0 h1 hs4 hr1 hr3 hp HQP.out _).mono ?_; rintro e w5 ⟨b', F', rfl, hT', hF', hb0, hb5⟩
          exact hK.out _ (.agg #[.int .i64 (s : Int), .int .i64 (r : Int), .slice (some ⟨b', 0, none⟩) q q]) _ (by simp only [puts, Act.put, List.setIfInBounds_toArray, List.set_cons_zero, List.set_cons_succ, h2, h4, h5]) hb5 (⟨below_cell hb5 c0, below_cell hb5 c1, below_cell hb5 c2, hB.trans (hb5.mono hB.size)⟩) (⟨b', F', rfl, hT', hF'⟩)
        · refine StepOk.intro (some 16) rfl rfl (fun x w1 hS hdep K hK => ?_)
          have h0 : x 0 = .agg #[.int .i64 (s : Int), .int .i64 (r : Int), .slice (some ⟨b, 0, none⟩) q q] := hdep 0 (by kernel_rfl)
          have h6 : ∃ (b' : Nat) (F' : Nat → Int), (x 6) = .agg #[.int .i64 (s : Int), .int .i64 (r : Int), .slice (some ⟨b', 0, none⟩) q q] ∧ TabAt w1 b' F' ∧ ∀ i, i < q → F' i = intN (digs s r i) p0 := hdep 6 (by kernel_rfl)
          clear hdep
          have hSS := Lib.hid hS
          obtain ⟨c0, c1, c2, hB⟩ := hS
          refine ⟨?_⟩
          simp only [puts, Act.put, List.setIfInBounds_toArray, List.set_cons_zero, List.set_cons_succ, h0]
          obtain ⟨b', F', e6, hT', hF'⟩ := h6
          have HTE : Hid (Tells true (r = r ∧ rowF G q = rowF F' q)) := Lib.hid (by rw [rowF_congr hF', HTA.out]; exact ⟨fun h => ⟨rfl, HLB.out.1 h⟩, fun h => HLB.out.2 h.2⟩)
          simp only [e6]
          go_simp; go_at_call 167; refine (isLike s r b q s r b' q G F' true _ (HTB.out.below hB) hT' hq64 hq64 HGB.out (fun i hi => by rw [hF' i hi]; exact HDB.out i) HTE.out).mono ?_; rintro e w5 ⟨rfl, hb5⟩
          exact hK.out _ (.bool true) _ (by simp only [puts, Act.put, List.setIfInBounds_toArray, List.set_cons_zero, List.set_cons_succ, h0, e6]) hb5 (⟨below_cell hb5 c0, below_cell hb5 c1, below_cell hb5 c2, hB.trans (hb5.mono hB.size)⟩) (rfl)
      · intro x w1 hS hx
        have e0 : x 0 = .agg #[.int .i64 (s : Int), .int .i64 (r : Int), .slice (some ⟨b, 0, none⟩) q q] := hx 0 (by decide)
        have e1 : x 1 = .pointer (some ⟨w.heap.size, 0, none⟩) := hx 1 (by decide)
        have e2 : x 2 = .int .i64 (s : Int) := hx 2 (by decide)
        have e3 : x 3 = .pointer (some ⟨w.heap.size, 1, none⟩) := hx 3 (by decide)
        have e4 : x 4 = .int .i64 (r : Int) := hx 4 (by decide)
        have e5 : x 5 = .int .i64 (p0 : Int) := hx 5 (by decide)
        have e6 : ∃ (b' : Nat) (F' : Nat → Int), (x 6) = .agg #[.int .i64 (s : Int), .int .i64 (r : Int), .slice (some ⟨b', 0, none⟩) q q] ∧ TabAt w1 b' F' ∧ ∀ i, i < q → F' i = intN (digs s r i) p0 := hx 6 (by decide)
        have e7 : x 7 = .bool true := hx 7 (by decide)
        clear hx
        obtain ⟨c0, c1, c2, hB⟩ := hS
        simp only [puts, Act.put, List.setIfInBounds_toArray, List.set_cons_zero, List.set_cons_succ, e0, e1, e2, e3, e4, e5, e7]
        clear e0 e1 e2 e3 e4 e5 e7
        refine NoPanic.normal ?_
        go_wp2
        go_ret
        exact ⟨ret_bool HF.out.symm, hB⟩

    · have HLB : Hid (Tells false (tab = rowF (fun i => intN (digs s r i) p0) q)) := Lib.hid (Tells.no (by rw [← HQP.out]; exact hpj))
      have HNP := Lib.hid hpj
      clear hpj
      go_wp2
      refine wp_region_noPanic ?_
      refine wp_region_inv (fun w' => w'.cell? ⟨w.heap.size, 0, none⟩ = some (.int .i64 s) ∧ w'.cell? ⟨w.heap.size, 1, none⟩ = some (.int .i64 r) ∧ w'.cell? ⟨w.heap.size, 2, none⟩ = some (.slice (some ⟨b, 0, none⟩) q q) ∧ Below w.heap.size w w') (fun w1 w2 => Below w1.heap.size w1 w2) (fun k vv ww => match k with
        | 0 => vv = .agg #[.int .i64 (s : Int), .int .i64 (r : Int), .slice (some ⟨b, 0, none⟩) q q]
        | 1 => vv = .pointer (some ⟨w.heap.size, 0, none⟩)
        | 2 => vv = .int .i64 (s : Int)
        | 3 => vv = .pointer (some ⟨w.heap.size, 1, none⟩)
        | 4 => vv = .int .i64 (r : Int)
        | 5 => vv = .int .i64 (p0 : Int)
        | 6 => ∃ (b' : Nat) (F' : Nat → Int), vv = .agg #[.int .i64 (s : Int), .int .i64 (r : Int), .slice (some ⟨b', 0, none⟩) q q] ∧ TabAt ww b' F' ∧ ∀ i, i < q → F' i = intN (digs s r i) p0
        | 7 => vv = .bool false
        | _ => True) [(7, some 16), (6, some 15), (5, some 14), (4, some 13), (3, some 12), (2, some 11), (1, some 10), (0, some 9)] 8 (by kernel_rfl) rfl (by kernel_rfl) (by kernel_rfl) (by kernel_rfl) ?_ ?_ ?_ ?_
      · intro k v w1 w2 hN h
        match k, h with
        | 0, h => exact h
        | 1, h => exact h
        | 2, h => exact h
        | 3, h => exact h
        | 4, h => exact h
        | 5, h => exact h
        | 6, h => exact by obtain ⟨b', F', e, ht, hf⟩ := h; exact ⟨b', F', e, ht.below hN, hf⟩
        | 7, h => exact h
        | k + 8, _ => exact trivial
      · exact ⟨cb0, cb1, cb2, HW.out.trans (((QW.refl wr).drew.below _).mono HW.out.size)⟩
      · refine ⟨⟨⟨⟨⟨⟨⟨⟨trivial, ?_⟩, ?_⟩, ?_⟩, ?_⟩, ?_⟩, ?_⟩, ?_⟩, ?_⟩
        · refine StepOk.intro (some 9) rfl rfl (fun x w1 hS hdep K hK => ?_)
          clear hdep
          have hSS := Lib.hid hS
          obtain ⟨c0, c1, c2, hB⟩ := hS
          refine ⟨?_⟩
          simp only [puts, Act.put, List.setIfInBounds_toArray, List.set_cons_zero, List.set_cons_succ]
          go_simp
          exact hK.out _ (.agg #[.int .i64 (s : Int), .int .i64 (r : Int), .slice (some ⟨b, 0, none⟩) q q]) _ (by simp only [puts, Act.put, List.setIfInBounds_toArray, List.set_cons_zero, List.set_cons_succ]) (Below.refl _ _) (hSS.out) (rfl)
        · refine StepOk.intro (some 10) rfl rfl (fun x w1 hS hdep K hK => ?_)
          clear hdep
          have hSS := Lib.hid hS
          obtain ⟨c0, c1, c2, hB⟩ := hS
          refine ⟨?_⟩
          simp only [puts, Act.put, List.setIfInBounds_toArray, List.set_cons_zero, List.set_cons_succ]
          go_simp
          exact hK.out _ (.pointer (some ⟨w.heap.size, 0, none⟩)) _ (by simp only [puts, Act.put, List.setIfInBounds_toArray, List.set_cons_zero, List.set_cons_succ]) (Below.refl _ _) (hSS.out) (rfl)
        · refine StepOk.intro (some 11) rfl rfl (fun x w1 hS hdep K hK => ?_)
          have h1 : x 1 = .pointer (some ⟨w.heap.size, 0, none⟩) := hdep 1 (by kernel_rfl)
          clear hdep
          have hSS := Lib.hid hS
          obtain ⟨c0, c1, c2, hB⟩ := hS
          refine ⟨?_⟩
          simp only [puts, Act.put, List.setIfInBounds_toArray, List.set_cons_zero, List.set_cons_succ, h1]
          go_simp
          exact hK.out _ (.int .i64 (s : Int)) _ (by simp only [puts, Act.put, List.setIfInBounds_toArray, List.set_cons_zero, List.set_cons_succ, h1]) (Below.refl _ _) (hSS.out) (rfl)
        · refine StepOk.intro (some 12) rfl rfl (fun x w1 hS hdep K hK => ?_)
          clear hdep
          have hSS := Lib.hid hS
          obtain ⟨c0, c1, c2, hB⟩ := hS
          refine ⟨?_⟩
          simp only [puts, Act.put, List.setIfInBounds_toArray, List.set_cons_zero, List.set_cons_succ]
          go_simp
          exact hK.out _ (.pointer (some ⟨w.heap.size, 1, none⟩)) _ (by simp only [puts, Act.put, List.setIfInBounds_toArray, List.set_cons_zero, List.set_cons_succ]) (Below.refl _ _) (hSS.out) (rfl)
        · refine StepOk.intro (some 13) rfl rfl (fun x w1 hS hdep K hK => ?_)
          have h3 : x 3 = .pointer (some ⟨w.heap.size, 1, none⟩) := hdep 3 (by kernel_rfl)
          clear hdep
          have hSS := Lib.hid hS
          obtain ⟨c0, c1, c2, hB⟩ := hS
          refine ⟨?_⟩
          simp only [puts, Act.put, List.setIfInBounds_toArray, List.set_cons_zero, List.set_cons_succ, h3]
          go_simp
          exact hK.out _ (.int .i64 (r : Int)) _ (by simp only [puts, Act.put, List.setIfInBounds_toArray, List.set_cons_zero, List.set_cons_succ, h3]) (Below.refl _ _) (hSS.out) (rfl)
        · refine StepOk.intro (some 14) rfl rfl (fun x w1 hS hdep K hK => ?_)
          clear hdep
          have hSS := Lib.hid hS
          obtain ⟨c0, c1, c2, hB⟩ := hS
          refine ⟨?_⟩
          simp only [puts, Act.put, List.setIfInBounds_toArray, List.set_cons_zero, List.set_cons_succ]
          go_simp
          exact hK.out _ (.int .i64 (p0 : Int)) _ (by simp only [puts, Act.put, List.setIfInBounds_toArray, List.set_cons_zero, List.set_cons_succ]) (Below.refl _ _) (hSS.out) (rfl)
        · refine StepOk.intro (some 15) rfl rfl (fun x w1 hS hdep K hK => ?_)
          have h2 : x 2 = .int .i64 (s : Int) := hdep 2 (by kernel_rfl)
          have h4 : x 4 = .int .i64 (r : Int) := hdep 4 (by kernel_rfl)
          have h5 : x 5 = .int .i64 (p0 : Int) := hdep 5 (by kernel_rfl)
          clear hdep
          have hSS := Lib.hid hS
          obtain ⟨c0, c1, c2, hB⟩ := hS
          refine ⟨?_⟩
          simp only [puts, Act.put, List.setIfInBounds_toArray, List.set_cons_zero, List.set_cons_succ, h2, h4, h5]
          go_simp; go_at_call 168; refine (projectionTable s r q p0 h1 hs4 hr1 hr3 hp HQP.out _).mono ?_; rintro e w5 ⟨b', F', rfl, hT', hF', hb0, hb5⟩
          exact hK.out _ (.agg #[.int .i64 (s : Int), .int .i64 (r : Int), .slice (some ⟨b', 0, none⟩) q q]) _ (by simp only [puts, Act.put, List.setIfInBounds_toArray, List.set_cons_zero, List.set_cons_succ, h2, h4, h5]) hb5 (⟨below_cell hb5 c0, below_cell hb5 c1, below_cell hb5 c2, hB.trans (hb5.mono hB.size)⟩) (⟨b', F', rfl, hT', hF'⟩)
        · refine StepOk.intro (some 16) rfl rfl (fun x w1 hS hdep K hK => ?_)
          have h0 : x 0 = .agg #[.int .i64 (s : Int), .int .i64 (r : Int), .slice (some ⟨b, 0, none⟩) q q] := hdep 0 (by kernel_rfl)
          have h6 : ∃ (b' : Nat) (F' : Nat → Int), (x 6) = .agg #[.int .i64 (s : Int), .int .i64 (r : Int), .slice (some ⟨b', 0, none⟩) q q] ∧ TabAt w1 b' F' ∧ ∀ i, i < q → F' i = intN (digs s r i) p0 := hdep 6 (by kernel_rfl)
          clear hdep
          have hSS := Lib.hid hS
          obtain ⟨c0, c1, c2, hB⟩ := hS
          refine ⟨?_⟩
          simp only [puts, Act.put, List.setIfInBounds_toArray, List.set_cons_zero, List.set_cons_succ, h0]
          obtain ⟨b', F', e6, hT', hF'⟩ := h6
          have HTE : Hid (Tells false (r = r ∧ rowF G q = rowF F' q)) := Lib.hid (by rw [rowF_congr hF', HTA.out]; exact ⟨fun h => ⟨rfl, HLB.out.1 h⟩, fun h => HLB.out.2 h.2⟩)
          simp only [e6]
          go_simp; go_at_call 167; refine (isLike s r b q s r b' q G F' false _ (HTB.out.below hB) hT' hq64 hq64 HGB.out (fun i hi => by rw [hF' i hi]; exact HDB.out i) HTE.out).mono ?_; rintro e w5 ⟨rfl, hb5⟩
          exact hK.out _ (.bool false) _ (by simp only [puts, Act.put, List.setIfInBounds_toArray, List.set_cons_zero, List.set_cons_succ, h0, e6]) hb5 (⟨below_cell hb5 c0, below_cell hb5 c1, below_cell hb5 c2, hB.trans (hb5.mono hB.size)⟩) (rfl)
      · intro x w1 hS hx
        have e0 : x 0 = .agg #[.int .i64 (s : Int), .int .i64 (r : Int), .slice (some ⟨b, 0, none⟩) q q] := hx 0 (by decide)
        have e1 : x 1 = .pointer (some ⟨w.heap.size, 0, none⟩) := hx 1 (by decide)
        have e2 : x 2 = .int .i64 (s : Int) := hx 2 (by decide)
        have e3 : x 3 = .pointer (some ⟨w.heap.size, 1, none⟩) := hx 3 (by decide)
        have e4 : x 4 = .int .i64 (r : Int) := hx 4 (by decide)
        have e5 : x 5 = .int .i64 (p0 : Int) := hx 5 (by decide)
        have e6 : ∃ (b' : Nat) (F' : Nat → Int), (x 6) = .agg #[.int .i64 (s : Int), .int .i64 (r : Int), .slice (some ⟨b', 0, none⟩) q q] ∧ TabAt w1 b' F' ∧ ∀ i, i < q → F' i = intN (digs s r i) p0 := hx 6 (by decide)
        have e7 : x 7 = .bool false := hx 7 (by decide)
        clear hx
        obtain ⟨c0, c1, c2, hB⟩ := hS
        simp only [puts, Act.put, List.setIfInBounds_toArray, List.set_cons_zero, List.set_cons_succ, e0, e1, e2, e3, e4, e5, e7]
        clear e0 e1 e2 e3 e4 e5 e7
        refine NoPanic.normal ?_
        go_wp2
        go_roundw
        case rel =>
          refine ⟨p0 + 1, by omega, by go_num, fun z hz => ?_, c0, c1, c2, hB⟩
          by_cases hzk : z = p0
          · subst hzk; exact HNP.out
          · exact HX.out z (by omega)
        case measure => simp [intOf]; omega

end Go.Proofs.Ytclhcnfgpkhplaa
