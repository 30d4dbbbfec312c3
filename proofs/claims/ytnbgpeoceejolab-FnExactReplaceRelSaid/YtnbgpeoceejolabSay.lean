/-
  say of the program: what a formula says, about some variables.
-/
import Derived.Test.YtnbgpeoceejolabMaker
import Derived.Test.YtnbgpeoceejolabClone
namespace Go.Proofs.Ytnbgpeoceejolab
open Go.RowKit

/-- The variables about which is said: the given ones, then further ones from y on. -/
def sayL (ps : List Int) (y k : Nat) : List Int := ps ++ (List.range k).map fun j => ((y + j : Nat) : Int)
theorem sayL_len (ps : List Int) (y k : Nat) : (sayL ps y k).length = ps.length + k := by simp [sayL]
theorem sayL_succ (ps : List Int) (y k : Nat) : sayL ps y (k + 1) = sayL ps y k ++ [((y + k : Nat) : Int)] := by simp [sayL, List.range_succ]
theorem sayL_zero (ps : List Int) (y : Nat) : sayL ps y 0 = ps := by simp [sayL]

theorem Only.bel {S : Nat → Prop} {w wr w' : World} (h : Only S w wr) (k : Below w.heap.size wr w') : Only S w w' :=
  ⟨k.os.trans h.os, k.tape.trans h.tape, k.output.trans h.output, Nat.le_trans h.size k.size, fun q hq hs => (k.block q hq).trans (h.block q hq hs)⟩

set_option linter.unusedSimpArgs false in
set_option maxHeartbeats 1000000 in
set_option maxRecDepth 100000 in
theorem say_ok (w : World) (b B y m : Nat) (va x : Int) (a : Option Addr) (n c : Nat) (rs fs : List (Int × List Int)) (vf vp : Value) (ps : List Int) (wb : World)
    (hbx : Box 96 w b #[.int .i64 x, .int .i64 y, .slice a n c, .int .i64 8, .int .i64 16]) (hbB : b < B) (hB : B ≤ w.heap.size) (ho : OwnOps 83 w B w.heap.size (.slice a n c) rs)
    (hwb : wb.heap.size ≤ b) (hbel : Below wb.heap.size wb w) (hf : OpsAt wb vf fs) (hp : RowAt w vp ps) (hp0 : 0 < ps.length) (hva : va = ps.length + m) (hpl : ps.length ≤ 1000) (hy : y + m ≤ 8) (hlen : rs.length + fs.length ≤ 16) (hfl : ∀ k, k < fs.length → (rowO fs k).length ≤ 1000) (hfr : ∀ k, k < fs.length → ∀ i, i < (rowO fs k).length → 0 ≤ intN (rowO fs k) i ∧ intN (rowO fs k) i < va) :
    Calls Try.prog 36 #[.pointer (some ⟨b, 0, none⟩), .agg #[.int .i64 ps.length, .int .i64 va, vf], vp] w fun e w' => e = .returned (.tuple #[]) ∧ ∃ a' n' c', Box 96 w' b #[.int .i64 x, .int .i64 ((y + m : Nat) : Int), .slice a' n' c', .int .i64 8, .int .i64 16] ∧
      OwnOps 83 w' B w'.heap.size (.slice a' n' c') (rs ++ movedL fs (sayL ps y m)) ∧ Below b w w' := by
  obtain ⟨i0, hi, hz0, hz1, hz2⟩ := info_parts info_int3
  obtain ⟨s1, s3, rfl, hn1, hcs⟩ := hf
  have HCS := Lib.hid hcs
  have HFL := Lib.hid hfl
  have HFR := Lib.hid hfr
  clear hcs hfl hfr
  have hsub : IntKind.i64.wrap (va - (ps.length : Int)) = (m : Int) := by rw [IntWalk.i64_in _ (by omega)]; omega
  have HVA := Lib.hid hva
  clear hva
  have hwA : Below w.heap.size w (w.alloc (.cells #[.int .i64 ps.length, .int .i64 va, .slice s1 fs.length s3] 32)) := (Below.refl _ _).alloc (Nat.le_refl _) _
  have HP := Lib.hid hp
  have HO := Lib.hid ho
  have HBL := Lib.hid hbel
  have hsw := hbel.size
  have hcl := (cloneInts vp ps (w.alloc (.cells #[.int .i64 ps.length, .int .i64 va, .slice s1 fs.length s3] 32)) (HP.out.below hwA) hp0 hpl)
  clear hp ho hbel
  go_enter Try.func36, Try.ntmps36
  go_wp2_with (go_at_call 62; refine hcl.mono ?_; rintro e w1 ⟨g1, c1, rfl, hr1, hb1⟩; have hbxF := (Box.new 32 w #[.int .i64 ps.length, .int .i64 va, .slice s1 fs.length s3]).below hb1; have hq0 := hbxF.c 0 rfl; have hq1 := hbxF.c 1 rfl; have hq2 := hbxF.c 2 rfl)
  have hsA : (w.alloc (.cells #[.int .i64 ps.length, .int .i64 va, .slice s1 fs.length s3] 32)).heap.size = w.heap.size + 1 := by simp [go_sem]
  have hon1 : Only (fun q => q = b) w w1 := (Only.refl _ w).bel (hwA.trans (hb1.mono hwA.size))
  have HX1 := Lib.hid (hbx.same (hon1.bel (Below.refl _ _) |>.block b hbx.lt |> fun _ => (hwA.trans (hb1.mono hwA.size)).block b hbx.lt))
  have HF1 := Lib.hid hbxF
  have HN1 := Lib.hid hon1
  have HR1 := Lib.hid (show OwnRow w1 (w.heap.size + 1) (.slice (some ⟨g1, 0, none⟩) ps.length c1) ps from hsA ▸ hr1)
  have HS1 := Lib.hid (show w.heap.size + 1 ≤ w1.heap.size by have := hb1.size; omega)
  have HLB := Lib.hid hbx.lt
  clear hbx hbxF hon1 hr1 hb1 hq0 hq1 hq2 hcl hwA
  go_loopw [6, 16] (fun tv i wr => ∃ (k g cc : Nat), k ≤ m ∧ i = .int .i64 k ∧ tv = .slice (some ⟨g, 0, none⟩) (ps.length + k) cc ∧ OwnRow wr (w.heap.size + 1) (.slice (some ⟨g, 0, none⟩) (ps.length + k) cc) (sayL ps y k) ∧
    Box 96 wr b #[.int .i64 x, .int .i64 ((y + k : Nat) : Int), .slice a n c, .int .i64 8, .int .i64 16] ∧ Box 32 wr w.heap.size #[.int .i64 ps.length, .int .i64 va, .slice s1 fs.length s3] ∧ Only (fun q => q = b) w wr ∧ w.heap.size + 1 ≤ wr.heap.size) (fun _ i _ => m - (intOf i).toNat)
  case atStart => exact ⟨0, g1, c1, Nat.zero_le _, rfl, rfl, by rw [sayL_zero]; exact HR1.out, HX1.out, HF1.out, HN1.out, HS1.out⟩
  case round =>
    obtain ⟨k, g, cc, hk, rfl, rfl, hro, hmx, hfx, hon, hsz⟩ := hrel
    have HRO := Lib.hid hro
    have HMX := Lib.hid hmx
    have HFX := Lib.hid hfx
    have HON := Lib.hid hon
    have HSZ := Lib.hid hsz
    clear hro hmx hfx hon hsz
    by_cases hlt : k < m
    · have hlt' : (k : Int) < (m : Int) := by omega
      obtain ⟨z, hz⟩ : ∃ z : Int, z = ((y + k : Nat) : Int) := ⟨_, rfl⟩
      have HM2 := Lib.hid (hz ▸ HMX.out)
      have hav := addVariable_ok wr b x z _ HM2.out (by omega) (by omega)
      obtain ⟨wv, hwv⟩ : ∃ wv, (wr.setCell ⟨b, 1, none⟩ (.int .i64 (z + 1))).drew = wv := ⟨_, rfl⟩
      rw [hwv] at hav
      have HVB : Hid (wv.heap = (wr.setCell ⟨b, 1, none⟩ (.int .i64 (z + 1))).heap) := Lib.hid (by rw [← hwv]; rfl)
      have HOV := Lib.hid (Only.drew (Only.setCell HON.out (p := ⟨b, 1, none⟩) (by rfl) (.int .i64 (z + 1))))
      rw [hwv] at HOV
      have HZ := Lib.hid hz
      have hln := sayL_len ps y k
      have HLN := Lib.hid hln
      have hs2 : wv.heap.size = wr.heap.size := by rw [← hwv]; simp [go_sem]
      have hnew := heap_alloc_new wv (.cells #[.int .i64 z] 2)
      have HNW := Lib.hid hnew
      have hrv := OwnRow.below (OwnRow.stored HRO.out (p := ⟨b, 1, none⟩) (by show b < _; have := HLB.out; omega) (.int .i64 (z + 1))) (Below.refl _ _).drew
      rw [hwv] at hrv
      have HR2 := Lib.hid (hrv.alloc (.cells #[.int .i64 z] 2))
      rw [sayL_len] at HR2
      have HS2 := Lib.hid hs2
      clear hln hs2 hnew hz HMX hwv hrv
      go_wp2_with (first | (go_at_call 63; refine hav.mono ?_; rintro e w2 ⟨rfl, rfl⟩) | (at_builtin; refine wpList_append_lies _ rfl _ _ 45 rfl (w.heap.size + 1) 2 i0 (.int .i64 0) 1 8 Try.underlying45 hi hz0 hz1 hz2 rfl (by decide) (.slice (some ⟨g, 0, none⟩) (ps.length + k) cc) (ps.length + k) ((sayL ps y k).map (Value.int .i64)) rfl HR2.out _ 1 1 [.int .i64 z] rfl rfl (fun j u hu => World.news_of_block HNW.out j u (by simpa using hu)) (by simp [Value.oneCell']) (by omega) (by unfold maxLen; omega) (by omega) (by have := HSZ.out; have := HS2.out; simp [go_sem]; omega) _ rfl ?_; intro g5 cap5 w5 hown5 hgrow5 hat5 hlt5; have HG5 := Lib.hid hown5; have HB5 := Lib.hid (((Below.refl (w.heap.size + 1) w2).alloc (by have := HSZ.out; have := HS2.out; omega) (.cells #[.int .i64 z] 2)).grown hgrow5 (by have := HSZ.out; have := HS2.out; simp [go_sem]; omega) (fun q hq => (HR2.out.lt q hq).1)); clear hown5 hgrow5 hat5 hlt5))
      have ez : z + 1 = ((y + (k + 1) : Nat) : Int) := by rw [HZ.out]; omega
      refine ⟨⟨k + 1, g5, cap5, by omega, by go_num, rfl, ?_, ?_, ?_, ?_, ?_⟩, by simp [intOf]; omega⟩
      · have h := HG5.out
        rw [HZ.out] at h
        unfold OwnRow
        rw [sayL_len, sayL_succ, List.map_append]
        exact h
      · rw [← ez]
        exact (HM2.out.set 1 (.int .i64 (z + 1))).same ((HB5.out.block b (by have := HLB.out; omega)).trans (by rw [HVB.out]))
      · exact HFX.out.same ((HB5.out.block _ (by omega)).trans (by rw [HVB.out]; exact Below.heap_setCell _ _ _ _ (by have := HLB.out; simp; omega)))
      · exact Only.bel HOV.out (HB5.out.mono (by omega))
      · have := HB5.out.size; have := HSZ.out; have := HS2.out; omega
    · obtain rfl : k = m := by omega
      have e0 := HFX.out.c 2 rfl
      have HB0 := Lib.hid (Only.below HON.out (B := b) (by have := HLB.out; omega) (fun q hq => by show b ≤ q; omega))
      have HL0 := Lib.hid (HO.out.same (by have := HON.out.size; omega) (fun q h1 h2 => HON.out.block q h2 (by show ¬ q = b; omega)))
      have hgl := HRO.out.lt g (by simp [Value.ownBlock])
      have HGL := Lib.hid hgl
      have hnt : ∀ q, (Value.slice a n c).ownBlock = some q → q < w.heap.size := fun q hq => by obtain ⟨V, hV⟩ := HO.out; exact hV.top q hq
      have HNT := Lib.hid hnt
      have HM3 := Lib.hid HMX.out
      clear hgl hnt HMX
      obtain ⟨wo, hwo⟩ : ∃ wo, wo = wr := ⟨_, rfl⟩
      subst hwo
      go_wp2
      go_loopw [8, 27] (fun _ i wq => ∃ (j : Nat) (a' : Option Addr) (n' c' : Nat), j ≤ fs.length ∧ i = .int .i64 j ∧ Box 96 wq b #[.int .i64 x, .int .i64 ((y + k : Nat) : Int), .slice a' n' c', .int .i64 8, .int .i64 16] ∧ OwnOps 83 wq B wq.heap.size (.slice a' n' c') (rs ++ movedK fs (sayL ps y k) j) ∧
        OwnRow wq (w.heap.size + 1) (.slice (some ⟨g, 0, none⟩) (ps.length + k) cc) (sayL ps y k) ∧ (Value.slice a' n' c').ownBlock ≠ some g ∧ Below b w wq ∧ w.heap.size + 1 ≤ wq.heap.size) (fun _ i _ => fs.length - (intOf i).toNat)
      case atStart =>
        refine ⟨0, a, n, c, Nat.zero_le _, rfl, HM3.out, ?_, HRO.out, fun e => by have := HNT.out g e; have := HGL.out; omega, HB0.out, HSZ.out⟩
        have e : rs ++ movedK fs (sayL ps y k) 0 = rs := by simp [movedK]
        rw [e]
        exact HL0.out.full
      case round =>
        obtain ⟨j, a', n', c', hj, rfl, hbq, hlq, hrq, hgq, hwq, hsq⟩ := hrel
        have HBQ := Lib.hid hbq
        have HLQ := Lib.hid hlq
        have HRQ := Lib.hid hrq
        have HGQ := Lib.hid hgq
        have HWQ := Lib.hid hwq
        have HSQ := Lib.hid hsq
        clear hbq hlq hrq hgq hwq hsq
        by_cases hjl : j < fs.length
        · obtain ⟨b1, off1, ha1, hcell1⟩ := HCS.out (by omega)
          subst ha1
          obtain ⟨y0, a2, n2, c2, y1, hr0⟩ := hcell1 j hjl
          have HBB := Lib.hid (HBL.out.trans (HWQ.out.mono hwb))
          have HR0 := Lib.hid (hr0.below HBB.out)
          have y0 := below_cell HBB.out y0
          have y1 := below_cell HBB.out y1
          have hjl' : (j : Int) < (fs.length : Int) := by omega
          have HAL0 := Lib.hid ((Below.refl wr.heap.size wr).alloc (Nat.le_refl _) (.cells #[.int .i64 (arO fs j), .slice a2 n2 c2] 83))
          have hren := renamed (arO fs j) a2 n2 c2 _ (rowO fs j) (sayL ps y k) _ (HR0.out.below HAL0.out) (HRQ.out.rowAt.below HAL0.out) (HFL.out j hjl) (fun i hi => by have := HFR.out j hjl i hi; have e := sayL_len ps y k; have := HVA.out; rw [e]; omega)
          clear hcell1 hr0
          go_wp2_with (go_at_call 65; refine hren.mono ?_; rintro e w3 ⟨a3, n3, c3, rfl, ho3, hb3⟩; have hadd := addAtom_ok wr w3 b B x ((y + k : Nat) : Int) (arO fs j) a' a3 n' c' n3 c3 (rs ++ movedK fs (sayL ps y k) j) (mapped (sayL ps y k) (rowO fs j)) (HBQ.out.same ((HAL0.out.trans (hb3.mono HAL0.out.size)).block b HBQ.out.lt)) hbB (by have := HSQ.out; omega) HLQ.out (HAL0.out.trans (hb3.mono HAL0.out.size)) (ho3.row.mono HAL0.out.size) (by rw [List.length_append, movedK_len fs _ j (by omega)]; omega))
          have hb5 := HAL0.out.trans (hb3.mono HAL0.out.size)
          have HB5 := Lib.hid hb5
          have hlb : ∀ q, (Value.slice a' n' c').ownBlock = some q → B ≤ q := fun q hq => by
            obtain ⟨V, hV⟩ := HLQ.out
            obtain ⟨zs, hz, _⟩ := hV.outer
            exact (World.ownsRow.lt hz q hq).1
          have HLBB := Lib.hid hlb
          have HADD := Lib.hid hadd
          clear hb5 hlb ho3 hb3 hren y0 y1 hadd
          go_wp2_with (go_at_call 64; refine HADD.out.mono ?_; rintro e w4 ⟨rfl, a4, n4, c4, hB4, hO4, hon4, hto4⟩; have HB4 := Lib.hid hB4; have HO4 := Lib.hid hO4; have HON4 := Lib.hid hon4; have HTO4 := Lib.hid hto4; clear hB4 hO4 hon4 hto4)
          go_roundw
          case rel =>
            have hgr := (HRQ.out.lt g (by simp [Value.ownBlock])).2
            refine ⟨j + 1, a4, n4, c4, by omega, by go_num, HB4.out, ?_, ?_, ?_, ?_, ?_⟩
            · rw [movedK_succ fs _ j hjl, ← List.append_assoc]
              exact HO4.out
            · refine (HRQ.out.below HB5.out).only HON4.out fun q hq hs => ?_
              obtain rfl : g = q := by simpa [Value.ownBlock] using hq
              rcases hs with hs | hs
              · have := HGL.out; have := HLB.out; omega
              · exact HGQ.out hs.symm
            · intro e
              rcases HTO4.out g e with h | h
              · exact HGQ.out h
              · have := HB5.out.size; omega
            · refine HWQ.out.trans ((HB5.out.mono (by have := HSQ.out; have := HLB.out; omega)).trans (HON4.out.below (B := b) (by have := HB5.out.size; have := HSQ.out; have := HLB.out; omega) fun q hq => ?_))
              rcases hq with hq | hq
              · omega
              · have := HLBB.out q hq.symm; omega
            · have := HON4.out.size; have := HB5.out.size; have := HSQ.out; omega
          case measure => simp [intOf]; omega
        · obtain rfl : j = fs.length := by omega
          go_wp2
          exact ⟨rfl, .tuple #[], by simp [results, Try.results36, go_sem], rfl, a', n', c', HBQ.out, HLQ.out, HWQ.out⟩

set_option linter.unusedSimpArgs false in
set_option maxHeartbeats 1000000 in
set_option maxRecDepth 100000 in
theorem say_told (w : World) (b B y m : Nat) (va x : Int) (a : Option Addr) (n c : Nat) (rs fs : List (Int × List Int)) (vf vp : Value) (ps : List Int) (wb : World)
    (hbx : Box 96 w b #[.int .i64 x, .int .i64 y, .slice a n c, .int .i64 8, .int .i64 16]) (hbB : b < B) (hB : B ≤ w.heap.size) (ho : OwnOps 83 w B w.heap.size (.slice a n c) rs)
    (hwb : wb.heap.size ≤ b) (hbel : Below wb.heap.size wb w) (hf : OpsAt wb vf fs) (hp : RowAt w vp ps) (hp0 : 0 < ps.length) (hva : va = ps.length + m) (hpl : ps.length ≤ 1000) (hm8 : m ≤ 8) (hy8 : y ≤ 8) (hl16 : rs.length ≤ 16) (hbig : 8 < y + m ∨ 16 < rs.length + fs.length) (hfl : ∀ k, k < fs.length → (rowO fs k).length ≤ 1000) (hfr : ∀ k, k < fs.length → ∀ i, i < (rowO fs k).length → 0 ≤ intN (rowO fs k) i ∧ intN (rowO fs k) i < va) :
    Calls Try.prog 36 #[.pointer (some ⟨b, 0, none⟩), .agg #[.int .i64 ps.length, .int .i64 va, vf], vp] w fun e w' => e = .panicked [{ v := tooBig, recovered := false }] ∧ Below b w w' := by
  obtain ⟨i0, hi, hz0, hz1, hz2⟩ := info_parts info_int3
  obtain ⟨s1, s3, rfl, hn1, hcs⟩ := hf
  have HCS := Lib.hid hcs
  have HFL := Lib.hid hfl
  have HFR := Lib.hid hfr
  clear hcs hfl hfr
  have hsub : IntKind.i64.wrap (va - (ps.length : Int)) = (m : Int) := by rw [IntWalk.i64_in _ (by omega)]; omega
  have HVA := Lib.hid hva
  clear hva
  have hwA : Below w.heap.size w (w.alloc (.cells #[.int .i64 ps.length, .int .i64 va, .slice s1 fs.length s3] 32)) := (Below.refl _ _).alloc (Nat.le_refl _) _
  have HP := Lib.hid hp
  have HO := Lib.hid ho
  have HBL := Lib.hid hbel
  have hsw := hbel.size
  have hcl := (cloneInts vp ps (w.alloc (.cells #[.int .i64 ps.length, .int .i64 va, .slice s1 fs.length s3] 32)) (HP.out.below hwA) hp0 hpl)
  clear hp ho hbel
  go_enter Try.func36, Try.ntmps36
  go_wp2_with (go_at_call 62; refine hcl.mono ?_; rintro e w1 ⟨g1, c1, rfl, hr1, hb1⟩; have hbxF := (Box.new 32 w #[.int .i64 ps.length, .int .i64 va, .slice s1 fs.length s3]).below hb1; have hq0 := hbxF.c 0 rfl; have hq1 := hbxF.c 1 rfl; have hq2 := hbxF.c 2 rfl)
  have hsA : (w.alloc (.cells #[.int .i64 ps.length, .int .i64 va, .slice s1 fs.length s3] 32)).heap.size = w.heap.size + 1 := by simp [go_sem]
  have hon1 : Only (fun q => q = b) w w1 := (Only.refl _ w).bel (hwA.trans (hb1.mono hwA.size))
  have HX1 := Lib.hid (hbx.same (hon1.bel (Below.refl _ _) |>.block b hbx.lt |> fun _ => (hwA.trans (hb1.mono hwA.size)).block b hbx.lt))
  have HF1 := Lib.hid hbxF
  have HN1 := Lib.hid hon1
  have HR1 := Lib.hid (show OwnRow w1 (w.heap.size + 1) (.slice (some ⟨g1, 0, none⟩) ps.length c1) ps from hsA ▸ hr1)
  have HS1 := Lib.hid (show w.heap.size + 1 ≤ w1.heap.size by have := hb1.size; omega)
  have HLB := Lib.hid hbx.lt
  clear hbx hbxF hon1 hr1 hb1 hq0 hq1 hq2 hcl hwA
  go_loopw [6, 16] (fun tv i wr => ∃ (k g cc : Nat), k ≤ m ∧ y + k ≤ 8 ∧ i = .int .i64 k ∧ tv = .slice (some ⟨g, 0, none⟩) (ps.length + k) cc ∧ OwnRow wr (w.heap.size + 1) (.slice (some ⟨g, 0, none⟩) (ps.length + k) cc) (sayL ps y k) ∧
    Box 96 wr b #[.int .i64 x, .int .i64 ((y + k : Nat) : Int), .slice a n c, .int .i64 8, .int .i64 16] ∧ Box 32 wr w.heap.size #[.int .i64 ps.length, .int .i64 va, .slice s1 fs.length s3] ∧ Only (fun q => q = b) w wr ∧ w.heap.size + 1 ≤ wr.heap.size) (fun _ i _ => m - (intOf i).toNat)
  case atStart => exact ⟨0, g1, c1, Nat.zero_le _, by omega, rfl, rfl, by rw [sayL_zero]; exact HR1.out, HX1.out, HF1.out, HN1.out, HS1.out⟩
  case round =>
    obtain ⟨k, g, cc, hk, hk8, rfl, rfl, hro, hmx, hfx, hon, hsz⟩ := hrel
    have HRO := Lib.hid hro
    have HMX := Lib.hid hmx
    have HFX := Lib.hid hfx
    have HON := Lib.hid hon
    have HSZ := Lib.hid hsz
    clear hro hmx hfx hon hsz
    by_cases hlt : k < m
    · have hlt' : (k : Int) < (m : Int) := by omega
      by_cases h8 : y + k < 8
      · skip
        obtain ⟨z, hz⟩ : ∃ z : Int, z = ((y + k : Nat) : Int) := ⟨_, rfl⟩
        have HM2 := Lib.hid (hz ▸ HMX.out)
        have hav := addVariable_ok wr b x z _ HM2.out (by omega) (by omega)
        obtain ⟨wv, hwv⟩ : ∃ wv, (wr.setCell ⟨b, 1, none⟩ (.int .i64 (z + 1))).drew = wv := ⟨_, rfl⟩
        rw [hwv] at hav
        have HVB : Hid (wv.heap = (wr.setCell ⟨b, 1, none⟩ (.int .i64 (z + 1))).heap) := Lib.hid (by rw [← hwv]; rfl)
        have HOV := Lib.hid (Only.drew (Only.setCell HON.out (p := ⟨b, 1, none⟩) (by rfl) (.int .i64 (z + 1))))
        rw [hwv] at HOV
        have HZ := Lib.hid hz
        have hln := sayL_len ps y k
        have HLN := Lib.hid hln
        have hs2 : wv.heap.size = wr.heap.size := by rw [← hwv]; simp [go_sem]
        have hnew := heap_alloc_new wv (.cells #[.int .i64 z] 2)
        have HNW := Lib.hid hnew
        have hrv := OwnRow.below (OwnRow.stored HRO.out (p := ⟨b, 1, none⟩) (by show b < _; have := HLB.out; omega) (.int .i64 (z + 1))) (Below.refl _ _).drew
        rw [hwv] at hrv
        have HR2 := Lib.hid (hrv.alloc (.cells #[.int .i64 z] 2))
        rw [sayL_len] at HR2
        have HS2 := Lib.hid hs2
        clear hln hs2 hnew hz HMX hwv hrv
        go_wp2_with (first | (go_at_call 63; refine hav.mono ?_; rintro e w2 ⟨rfl, rfl⟩) | (at_builtin; refine wpList_append_lies _ rfl _ _ 45 rfl (w.heap.size + 1) 2 i0 (.int .i64 0) 1 8 Try.underlying45 hi hz0 hz1 hz2 rfl (by decide) (.slice (some ⟨g, 0, none⟩) (ps.length + k) cc) (ps.length + k) ((sayL ps y k).map (Value.int .i64)) rfl HR2.out _ 1 1 [.int .i64 z] rfl rfl (fun j u hu => World.news_of_block HNW.out j u (by simpa using hu)) (by simp [Value.oneCell']) (by omega) (by unfold maxLen; omega) (by omega) (by have := HSZ.out; have := HS2.out; simp [go_sem]; omega) _ rfl ?_; intro g5 cap5 w5 hown5 hgrow5 hat5 hlt5; have HG5 := Lib.hid hown5; have HB5 := Lib.hid (((Below.refl (w.heap.size + 1) w2).alloc (by have := HSZ.out; have := HS2.out; omega) (.cells #[.int .i64 z] 2)).grown hgrow5 (by have := HSZ.out; have := HS2.out; simp [go_sem]; omega) (fun q hq => (HR2.out.lt q hq).1)); clear hown5 hgrow5 hat5 hlt5))
        have ez : z + 1 = ((y + (k + 1) : Nat) : Int) := by rw [HZ.out]; omega
        refine ⟨⟨k + 1, g5, cap5, by omega, by omega, by go_num, rfl, ?_, ?_, ?_, ?_, ?_⟩, by simp [intOf]; omega⟩
        · have h := HG5.out
          rw [HZ.out] at h
          unfold OwnRow
          rw [sayL_len, sayL_succ, List.map_append]
          exact h
        · rw [← ez]
          exact (HM2.out.set 1 (.int .i64 (z + 1))).same ((HB5.out.block b (by have := HLB.out; omega)).trans (by rw [HVB.out]))
        · exact HFX.out.same ((HB5.out.block _ (by omega)).trans (by rw [HVB.out]; exact Below.heap_setCell _ _ _ _ (by have := HLB.out; simp; omega)))
        · exact Only.bel HOV.out (HB5.out.mono (by omega))
        · have := HB5.out.size; have := HSZ.out; have := HS2.out; omega
      · have h8e : y + k = 8 := by omega
        have hfull := addVariable_full wr b 0 (by have h := HMX.out.c 1 rfl; rw [h8e] at h; exact h) (HMX.out.c 3 rfl)
        have HS := Lib.hid (Only.below HON.out (B := b) (by have := HLB.out; omega) (fun q hq => by show b ≤ q; omega))
        go_wp2_with (go_at_call 63; refine hfull.mono ?_; rintro e w2 ⟨rfl, rfl⟩)
        exact ⟨rfl, rfl, HS.out.drew⟩
    · obtain rfl : k = m := by omega
      have e0 := HFX.out.c 2 rfl
      have HB0 := Lib.hid (Only.below HON.out (B := b) (by have := HLB.out; omega) (fun q hq => by show b ≤ q; omega))
      have HL0 := Lib.hid (HO.out.same (by have := HON.out.size; omega) (fun q h1 h2 => HON.out.block q h2 (by show ¬ q = b; omega)))
      have hgl := HRO.out.lt g (by simp [Value.ownBlock])
      have HGL := Lib.hid hgl
      have hnt : ∀ q, (Value.slice a n c).ownBlock = some q → q < w.heap.size := fun q hq => by obtain ⟨V, hV⟩ := HO.out; exact hV.top q hq
      have HNT := Lib.hid hnt
      have HM3 := Lib.hid HMX.out
      clear hgl hnt HMX
      obtain ⟨wo, hwo⟩ : ∃ wo, wo = wr := ⟨_, rfl⟩
      subst hwo
      go_wp2
      go_loopw [8, 27] (fun _ i wq => ∃ (j : Nat) (a' : Option Addr) (n' c' : Nat), j ≤ fs.length ∧ rs.length + j ≤ 16 ∧ i = .int .i64 j ∧ Box 96 wq b #[.int .i64 x, .int .i64 ((y + k : Nat) : Int), .slice a' n' c', .int .i64 8, .int .i64 16] ∧ OwnOps 83 wq B wq.heap.size (.slice a' n' c') (rs ++ movedK fs (sayL ps y k) j) ∧
        OwnRow wq (w.heap.size + 1) (.slice (some ⟨g, 0, none⟩) (ps.length + k) cc) (sayL ps y k) ∧ (Value.slice a' n' c').ownBlock ≠ some g ∧ Below b w wq ∧ w.heap.size + 1 ≤ wq.heap.size) (fun _ i _ => fs.length - (intOf i).toNat)
      case atStart =>
        refine ⟨0, a, n, c, Nat.zero_le _, by omega, rfl, HM3.out, ?_, HRO.out, fun e => by have := HNT.out g e; have := HGL.out; omega, HB0.out, HSZ.out⟩
        have e : rs ++ movedK fs (sayL ps y k) 0 = rs := by simp [movedK]
        rw [e]
        exact HL0.out.full
      case round =>
        obtain ⟨j, a', n', c', hj, hj16, rfl, hbq, hlq, hrq, hgq, hwq, hsq⟩ := hrel
        have HBQ := Lib.hid hbq
        have HLQ := Lib.hid hlq
        have HRQ := Lib.hid hrq
        have HGQ := Lib.hid hgq
        have HWQ := Lib.hid hwq
        have HSQ := Lib.hid hsq
        clear hbq hlq hrq hgq hwq hsq
        by_cases hjl : j < fs.length
        · obtain ⟨b1, off1, ha1, hcell1⟩ := HCS.out (by omega)
          subst ha1
          obtain ⟨y0, a2, n2, c2, y1, hr0⟩ := hcell1 j hjl
          have HBB := Lib.hid (HBL.out.trans (HWQ.out.mono hwb))
          have HR0 := Lib.hid (hr0.below HBB.out)
          have y0 := below_cell HBB.out y0
          have y1 := below_cell HBB.out y1
          have hjl' : (j : Int) < (fs.length : Int) := by omega
          have HAL0 := Lib.hid ((Below.refl wr.heap.size wr).alloc (Nat.le_refl _) (.cells #[.int .i64 (arO fs j), .slice a2 n2 c2] 83))
          have hren := renamed (arO fs j) a2 n2 c2 _ (rowO fs j) (sayL ps y k) _ (HR0.out.below HAL0.out) (HRQ.out.rowAt.below HAL0.out) (HFL.out j hjl) (fun i hi => by have := HFR.out j hjl i hi; have e := sayL_len ps y k; have := HVA.out; rw [e]; omega)
          clear hcell1 hr0
          by_cases h16 : rs.length + j < 16
          · skip
            go_wp2_with (go_at_call 65; refine hren.mono ?_; rintro e w3 ⟨a3, n3, c3, rfl, ho3, hb3⟩; have hadd := addAtom_ok wr w3 b B x ((y + k : Nat) : Int) (arO fs j) a' a3 n' c' n3 c3 (rs ++ movedK fs (sayL ps y k) j) (mapped (sayL ps y k) (rowO fs j)) (HBQ.out.same ((HAL0.out.trans (hb3.mono HAL0.out.size)).block b HBQ.out.lt)) hbB (by have := HSQ.out; omega) HLQ.out (HAL0.out.trans (hb3.mono HAL0.out.size)) (ho3.row.mono HAL0.out.size) (by rw [List.length_append, movedK_len fs _ j (by omega)]; omega))
            have hb5 := HAL0.out.trans (hb3.mono HAL0.out.size)
            have HB5 := Lib.hid hb5
            have hlb : ∀ q, (Value.slice a' n' c').ownBlock = some q → B ≤ q := fun q hq => by
              obtain ⟨V, hV⟩ := HLQ.out
              obtain ⟨zs, hz, _⟩ := hV.outer
              exact (World.ownsRow.lt hz q hq).1
            have HLBB := Lib.hid hlb
            have HADD := Lib.hid hadd
            clear hb5 hlb ho3 hb3 hren y0 y1 hadd
            go_wp2_with (go_at_call 64; refine HADD.out.mono ?_; rintro e w4 ⟨rfl, a4, n4, c4, hB4, hO4, hon4, hto4⟩; have HB4 := Lib.hid hB4; have HO4 := Lib.hid hO4; have HON4 := Lib.hid hon4; have HTO4 := Lib.hid hto4; clear hB4 hO4 hon4 hto4)
            go_roundw
            case rel =>
              have hgr := (HRQ.out.lt g (by simp [Value.ownBlock])).2
              refine ⟨j + 1, a4, n4, c4, by omega, by omega, by go_num, HB4.out, ?_, ?_, ?_, ?_, ?_⟩
              · rw [movedK_succ fs _ j hjl, ← List.append_assoc]
                exact HO4.out
              · refine (HRQ.out.below HB5.out).only HON4.out fun q hq hs => ?_
                obtain rfl : g = q := by simpa [Value.ownBlock] using hq
                rcases hs with hs | hs
                · have := HGL.out; have := HLB.out; omega
                · exact HGQ.out hs.symm
              · intro e
                rcases HTO4.out g e with h | h
                · exact HGQ.out h
                · have := HB5.out.size; omega
              · refine HWQ.out.trans ((HB5.out.mono (by have := HSQ.out; have := HLB.out; omega)).trans (HON4.out.below (B := b) (by have := HB5.out.size; have := HSQ.out; have := HLB.out; omega) fun q hq => ?_))
                rcases hq with hq | hq
                · omega
                · have := HLBB.out q hq.symm; omega
              · have := HON4.out.size; have := HB5.out.size; have := HSQ.out; omega
            case measure => simp [intOf]; omega
          · have hn16 : n' = 16 := by
              have hle : (rs ++ movedK fs (sayL ps y k) j).length = 16 := by rw [List.length_append, movedK_len fs _ j (by omega)]; omega
              obtain ⟨V, hV⟩ := HLQ.out
              obtain ⟨zs, hz, _⟩ := hV.outer
              rcases ownsRow2_parts hz with ⟨e1, e2, _⟩ | ⟨q, q2, e1, _⟩
              · omega
              · simp only [Value.slice.injEq] at e1; omega
            subst hn16
            go_wp2_with (first | (go_at_call 65; refine hren.mono ?_; rintro e w3 ⟨a3, n3, c3, rfl, ho3, hb3⟩; have HB3 := Lib.hid (HAL0.out.trans (hb3.mono HAL0.out.size)); have hfull := addAtom_full w3 b a' c' #[.int .i64 (arO fs j), .slice a3 n3 c3] ((HBQ.out.same (HB3.out.block b HBQ.out.lt)).c 2 rfl) ((HBQ.out.same (HB3.out.block b HBQ.out.lt)).c 4 rfl)) | (go_at_call 64; refine hfull.mono ?_; rintro e w4 ⟨rfl, rfl⟩))
            refine ⟨rfl, rfl, ((HWQ.out.trans (HB3.out.mono (by have := HSQ.out; have := HLB.out; omega))).alloc (by have := HB3.out.size; have := HSQ.out; have := HLB.out; omega) _).drew⟩
        · obtain rfl : j = fs.length := by omega
          exact absurd hbig (by omega)

end Go.Proofs.Ytnbgpeoceejolab
