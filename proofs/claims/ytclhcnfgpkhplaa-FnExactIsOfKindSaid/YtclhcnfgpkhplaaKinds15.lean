/-
  slices.Sort at lists of int64: a row of its own is sorted in place; isSymmetric of the program.
-/
import Derived.Test.YtclhcnfgpkhplaaKinds14
import Derived.Test.YtclhcnfgpkhplaaShelf
namespace Go.Proofs.Ytclhcnfgpkhplaa
open Go.RowKit

/-- The list in ascending order. -/
def sortI (xs : List Int) : List Int := xs.mergeSort fun x y => decide (x ≤ y)
theorem sortI_perm (xs : List Int) : (sortI xs).Perm xs := List.mergeSort_perm _ _
theorem sortI_len (xs : List Int) : (sortI xs).length = xs.length := (sortI_perm xs).length_eq
theorem sortI_pair (xs : List Int) : (sortI xs).Pairwise fun a b => decide (a ≤ b) = true :=
  List.pairwise_mergeSort (fun a b c h1 h2 => by simp only [decide_eq_true_eq] at *; omega) (fun a b => by simp only [Bool.or_eq_true, decide_eq_true_eq]; omega) _
theorem sortI_same {xs ys : List Int} (h : xs.Perm ys) : sortI xs = sortI ys :=
  List.Perm.eq_of_pairwise (le := fun a b => decide (a ≤ b) = true) (fun a b _ _ h1 h2 => by simp only [decide_eq_true_eq] at *; omega) (sortI_pair _) (sortI_pair _) ((sortI_perm xs).trans (h.trans (sortI_perm ys).symm))

theorem heap_putRow (w : World) (g o : Nat) (d : Array Int) (k : Nat) (h : k ≠ g) : (Go.Sort.putRow (Value.int .i64) w g o d).heap[k]? = w.heap[k]? := by
  unfold Go.Sort.putRow Go.Sort.mapBlock
  simp only [Array.getElem?_modify]
  rw [if_neg (fun e => h e.symm)]
theorem size_putRow (w : World) (g o : Nat) (d : Array Int) : (Go.Sort.putRow (Value.int .i64) w g o d).heap.size = w.heap.size := by
  unfold Go.Sort.putRow Go.Sort.mapBlock
  simp

set_option maxRecDepth 100000 in
theorem slSort (B : Nat) (a : Option Addr) (n c : Nat) (xs : List Int) (w : World) (h : OwnRow w B (.slice a n c) xs) (hn : 0 < xs.length) (hx : xs.length ≤ 1000) :
    Calls Try.prog 177 #[.slice a n c] w fun e w' => e = .returned (.tuple #[]) ∧ RowAt w' (.slice a n c) (sortI xs) ∧ Below B w w' := by
  rcases h.rowIn with ⟨_, h0⟩ | ⟨g, c', hv, hB, hg, hc1, hc2⟩
  · rw [h0] at hn; exact absurd hn (by simp)
  simp only [Value.slice.injEq] at hv
  obtain ⟨rfl, rfl, rfl⟩ := hv
  have hH : Go.Sort.Holds (Value.int .i64) w g 0 xs.toArray := fun j hj => by
    have hj' : j < xs.length := by simpa using hj
    refine ⟨?_, ?_⟩
    · rw [Nat.zero_add, h.cell_of j hj', intN_at _ _ hj']
      simp [hj']
    · rw [Nat.zero_add]; exact h.free j
  refine (Try.slices_Sort_int g 0 c xs w hH hg (by omega)).mono ?_
  rintro e w' ⟨rfl, m, os, rfl⟩
  have hH2 : Go.Sort.Holds (Value.int .i64) (Go.Sort.ahead w m) g 0 xs.toArray := Go.Sort.holds_ahead _ _ _ _ _ _ hH
  refine ⟨rfl, ⟨_, c, by rw [sortI_len], by rw [sortI_len]; omega, fun _ => ⟨g, 0, rfl, fun i hi => ?_⟩⟩, ⟨rfl, rfl, rfl, ?_, fun k hk => ?_⟩⟩
  · rw [Go.Sort.cell?_grow _ _ _ (by rw [size_putRow]; exact hg)]
    have hi' : i < (sortI xs).toArray.size := by simpa using hi
    have hs : (sortI xs).toArray.size = xs.toArray.size := by simp [sortI_len]
    have := Go.Sort.cell?_putRow (Value.int .i64) (Go.Sort.ahead w m) g 0 xs.toArray (sortI xs).toArray hH2 hs i hi'
    refine this.trans ?_
    show some (Value.int .i64 ((sortI xs).toArray[i]!)) = some (Value.int .i64 (intN (sortI xs) i))
    rw [intN_at _ _ hi]
    simp [hi]
  · show w.heap.size ≤ (Go.Sort.grow _ os).heap.size
    unfold Go.Sort.grow
    show w.heap.size ≤ ((Go.Sort.putRow (Value.int .i64) (Go.Sort.ahead w m) g 0 _).heap ++ os).size
    rw [Array.size_append, size_putRow]
    show w.heap.size ≤ w.heap.size + os.size
    omega
  · rw [Go.Sort.heap_grow_old _ _ (by rw [size_putRow]; show k < w.heap.size; omega), heap_putRow _ _ _ _ _ (by omega)]
    rfl

theorem swap_app (p l : List Int) (a b : Int) : swapL (p ++ a :: b :: l) p.length = p ++ b :: a :: l := by
  unfold swapL
  have e1 : intN (p ++ a :: b :: l) (p.length + 1) = b := by simp [intN]
  have e2 : intN (p ++ a :: b :: l) p.length = a := by simp [intN]
  rw [e1, e2, List.set_append_right _ _ (Nat.le_refl _), List.set_append_right _ _ (by omega)]
  simp
theorem tup_iff {s r : Nat} {t : List Int} : TupP s r t ↔ t.length = r ∧ ∀ x, x ∈ t → 0 ≤ x ∧ x < (s : Int) := by
  constructor
  · rintro ⟨h1, h2⟩
    refine ⟨by omega, fun x hx => ?_⟩
    obtain ⟨i, hi, rfl⟩ := List.mem_iff_getElem.1 hx
    have := h2 i hi
    rwa [intN_at _ _ hi] at this
  · rintro ⟨h1, h2⟩
    refine ⟨by omega, fun k hk => ?_⟩
    rw [intN_at _ _ hk]
    exact h2 _ (List.getElem_mem hk)
theorem tup_perm {s r : Nat} {t u : List Int} (hp : t.Perm u) (h : TupP s r t) : TupP s r u := by
  rw [tup_iff] at h ⊢
  exact ⟨by rw [← hp.length_eq]; exact h.1, fun x hx => h.2 x (hp.mem_iff.2 hx)⟩
theorem SymP.perm {s r : Nat} {tab : List Int} (h1 : 1 ≤ s) (hs4 : s ≤ 4) (hr1 : 1 ≤ r) (hr3 : r ≤ 3) (hl : tab.length = s ^ r) (h : SymP s r tab) {l l' : List Int} (hp : l.Perm l') :
    ∀ p : List Int, TupP s r (p ++ l) → intN tab (codeN s (p ++ l')) = intN tab (codeN s (p ++ l)) := by
  induction hp with
  | nil => intro p _; rfl
  | cons x _ ih =>
    intro p ht
    have := ih (p ++ [x]) (by simpa using ht)
    simpa using this
  | swap x y l =>
    intro p ht
    have hlt := codeN_pow h1 ht
    have hd := digs_of_code h1 hs4 hr1 (by omega) ht
    have := h (codeN s (p ++ y :: x :: l)) p.length (by rw [hl]; exact hlt) (by have := ht.1; simp at this; omega)
    rw [hd, swap_app] at this
    exact this
  | trans h12 h23 ih1 ih2 =>
    intro p ht
    rw [ih2 p (tup_perm (h12.append_left p) ht), ih1 p ht]
theorem swap_perm {t : List Int} {j : Nat} (hj : j + 1 < t.length) : (swapL t j).Perm t := by
  have e : t = t.take j ++ intN t j :: intN t (j + 1) :: t.drop (j + 2) := by
    rw [intN_at _ _ (by omega), intN_at _ _ hj]
    rw [List.getElem_cons_drop, List.getElem_cons_drop, List.take_append_drop]
  have hl : (t.take j).length = j := by rw [List.length_take]; omega
  have h := swap_app (t.take j) (t.drop (j + 2)) (intN t j) (intN t (j + 1))
  rw [hl, ← e] at h
  rw [h]
  conv => rhs; rw [e]
  exact List.Perm.append_left _ (List.Perm.swap _ _ _)
/-- Symmetric: the sorted list has the same value. -/
theorem SymP.iff {s r : Nat} {tab : List Int} (h1 : 1 ≤ s) (hs4 : s ≤ 4) (hr1 : 1 ≤ r) (hr3 : r ≤ 3) (hl : tab.length = s ^ r) : SymP s r tab ↔ ∀ n : Nat, n < tab.length → intN tab (codeN s (sortI (digs s r n))) = intN tab n := by
  constructor
  · intro h n hn
    have := SymP.perm h1 hs4 hr1 hr3 hl h (sortI_perm (digs s r n)).symm [] (digs_tup s r n h1)
    simp only [List.nil_append] at this
    rw [this, digs_code s r n (by rw [← hl]; exact hn)]
  · intro h n j hn hj
    have ht := swap_tup (digs_tup s r n h1) j hj
    have hm := codeN_pow h1 ht
    have h2 := h _ (by rw [hl]; exact hm)
    rw [digs_of_code h1 hs4 hr1 (by omega) ht, sortI_same (swap_perm (by rw [digs_len]; exact hj)), h n hn] at h2
    exact h2.symm

set_option linter.unusedSimpArgs false in
set_option maxHeartbeats 1000000 in
set_option maxRecDepth 100000 in
theorem isSymmetric (s r b q : Nat) (G : Nat → Int) (tab : List Int) (bb : Bool) (w : World) (hT : TabAt w b G) (ho : OpOk s r tab) (hq : tab.length = q) (hG : ∀ i, i < q → G i = intN tab i) (hb : Tells bb (SymP s r tab)) :
    Calls Try.prog 135 #[.agg #[.int .i64 (s : Int), .int .i64 (r : Int), .slice (some ⟨b, 0, none⟩) q q]] w fun e w' => e = .returned (.bool bb) ∧ Below w.heap.size w w' := by
  have h1 : 1 ≤ s := by have := ho.1.1; omega
  have hs4 : s ≤ 4 := by have := ho.1.2; omega
  have hr1 : 1 ≤ r := by have := ho.2.1.1; omega
  have hr3 : r ≤ 3 := by have := ho.2.1.2; omega
  have hs14 : In14 (s : Int) := ho.1
  have hr14 : In14 (r : Int) := ho.2.1.in14
  have hlen : tab.length = s ^ r := by have := ho.2.2.1; simp only [Int.toNat_natCast] at this; omega
  have hq64 : q ≤ 64 := by rw [← hq, hlen]; exact (pow_le3 h1 hs4 hr3).1
  have HTB := Lib.hid hT
  have HO := Lib.hid ho
  have HGG := Lib.hid hG
  have HB : Hid (Tells bb (∀ n : Nat, n < q → intN tab (codeN s (sortI (digs s r n))) = intN tab n)) := Lib.hid (by rw [← hq]; exact ⟨fun h => (SymP.iff h1 hs4 hr1 hr3 hlen).1 (hb.1 h), fun h => hb.2 ((SymP.iff h1 hs4 hr1 hr3 hlen).2 h)⟩)
  have HLQ := Lib.hid hq
  have HA : Hid (Below w.heap.size w (w.alloc (.cells #[.int .i64 s, .int .i64 r, .slice (some ⟨b, 0, none⟩) q q] 105))) := Lib.hid ((Below.refl _ _).alloc (Nat.le_refl _) _)
  have HBX := Lib.hid (Box.new 105 w #[.int .i64 s, .int .i64 r, .slice (some ⟨b, 0, none⟩) q q])
  clear hT ho hq hG hb hlen
  go_enter Try.func135, Try.ntmps135
  go_wp2
  go_loopw [9] (fun i wr => ∃ k : Nat, k ≤ q ∧ i = .int .i64 k ∧ (∀ z : Nat, z < k → intN tab (codeN s (sortI (digs s r z))) = intN tab z) ∧ wr.cell? ⟨w.heap.size, 0, none⟩ = some (.int .i64 s) ∧ wr.cell? ⟨w.heap.size, 1, none⟩ = some (.int .i64 r) ∧ wr.cell? ⟨w.heap.size, 2, none⟩ = some (.slice (some ⟨b, 0, none⟩) q q) ∧ Below w.heap.size w wr ∧ w.heap.size + 1 ≤ wr.heap.size) (fun i _ => q - (intOf i).toNat)
  case atStart => exact ⟨0, Nat.zero_le _, rfl, fun j hj => absurd hj (Nat.not_lt_zero _), HBX.out.c 0 rfl, HBX.out.c 1 rfl, HBX.out.c 2 rfl, HA.out, by simp⟩
  case round =>
    obtain ⟨k, hk, rfl, hall, cb0, cb1, cb2, hbel, hsz⟩ := hrel
    have HX := Lib.hid hall
    have HW := Lib.hid hbel
    clear hall hbel
    by_cases hlt : k < q
    case neg =>
      obtain rfl : k = q := by omega
      have HF := Lib.hid (HB.out.is_true HX.out)
      go_wp2
      go_ret
      exact ⟨ret_bool HF.out.symm, HW.out⟩
    have hlt' : (k : Int) < (q : Int) := by omega
    obtain ⟨x, hx⟩ : ∃ x, intN tab k = x := ⟨_, rfl⟩
    have cT := (HTB.out.below HW.out).c k (by omega)
    rw [HGG.out k hlt, hx] at cT
    have hxb := HO.out.2.2.2 k (by rw [HLQ.out]; exact hlt)
    rw [hx] at hxb
    have hx0 := hxb.1
    have hx1 : x < 256 := by omega
    have HXE := Lib.hid hx
    clear hx hxb
    have HTU : Hid (TupP s r (sortI (digs s r k))) := Lib.hid (tup_perm (sortI_perm _).symm (digs_tup s r k h1))
    obtain ⟨m, hm⟩ : ∃ m, codeN s (sortI (digs s r k)) = m := ⟨_, rfl⟩
    have hmq : m < q := by rw [← HLQ.out, ← hm]; exact HO.out.lt HTU.out
    obtain ⟨y, hy⟩ : ∃ y, intN tab m = y := ⟨_, rfl⟩
    have HG1 : Hid (G m = y) := Lib.hid (by rw [HGG.out m hmq]; exact hy)
    have hyb : 0 ≤ y ∧ y < 256 := by
      have := HO.out.2.2.2 m (by rw [HLQ.out]; exact hmq)
      rw [hy] at this
      omega
    have HYE : Hid (intN tab (codeN s (sortI (digs s r k))) = y) := Lib.hid (by rw [hm]; exact hy)
    have HCM := Lib.hid hm
    clear hm hy
    by_cases hyx : y = x
    · have hne : (y != x) = false := by simp [hyx]
      have HTH : Hid (intN tab (codeN s (sortI (digs s r k))) = intN tab k) := Lib.hid (by rw [HYE.out, HXE.out, hyx])
      clear hyx
      go_wp2_with fail
      refine (tupleOf s r k h1 hs4 hr1 (by omega) (by omega) _).mono ?_
      rintro e w4 ⟨a4, n4, c4, rfl, ho4, hb4⟩
      have HO4 := Lib.hid ho4
      have HW4 := Lib.hid (HW.out.trans (hb4.mono HW.out.size))
      have HK0 := Lib.hid (below_cell hb4 cb0)
      have HK1 := Lib.hid (below_cell hb4 cb1)
      have HK2 := Lib.hid (below_cell hb4 cb2)
      have HSZ : Hid (w.heap.size + 1 ≤ w4.heap.size) := Lib.hid (Nat.le_trans hsz hb4.size)
      clear ho4 hb4 cb0 cb1 cb2
      go_wp2_with fail
      refine (slSort _ _ _ _ (digs s r k) _ HO4.out (by rw [digs_len]; omega) (by rw [digs_len]; omega)).mono ?_
      rintro e w5 ⟨rfl, hr5, hb5⟩
      have HR5 := Lib.hid hr5
      have HW5 : Hid (Below w.heap.size w w5) := Lib.hid (HW4.out.trans (hb5.mono (by have := HW.out.size; omega)))
      have c0 : w5.cell? ⟨w.heap.size, 0, none⟩ = some (.int .i64 s) := by rw [Below.cell hb5 (by show w.heap.size < wr.heap.size; omega)]; exact HK0.out
      have c1 : w5.cell? ⟨w.heap.size, 1, none⟩ = some (.int .i64 r) := by rw [Below.cell hb5 (by show w.heap.size < wr.heap.size; omega)]; exact HK1.out
      have c2 : w5.cell? ⟨w.heap.size, 2, none⟩ = some (.slice (some ⟨b, 0, none⟩) q q) := by rw [Below.cell hb5 (by show w.heap.size < wr.heap.size; omega)]; exact HK2.out
      have HSZ5 : Hid (w.heap.size + 1 ≤ w5.heap.size) := Lib.hid (Nat.le_trans HSZ.out hb5.size)
      clear hr5 hb5
      go_wp2_with fail
      refine (opAt s r b q m G r _ (sortI (digs s r k)) y _ (HTB.out.below HW5.out) HR5.out hs14 hr14 HTU.out HCM.out hmq hq64 HG1.out hyb).mono ?_
      rintro e w6 ⟨rfl, hb6⟩
      have HW6 := Lib.hid (HW5.out.trans (hb6.mono HW5.out.size))
      have HL0 := Lib.hid (below_cell hb6 c0)
      have HL1 := Lib.hid (below_cell hb6 c1)
      have HL2 := Lib.hid (below_cell hb6 c2)
      have HSZ6 : Hid (w.heap.size + 1 ≤ w6.heap.size) := Lib.hid (Nat.le_trans HSZ5.out hb6.size)
      clear hb6 c0 c1 c2
      go_wp2
      go_roundw
      case rel =>
        refine ⟨k + 1, by omega, by go_num, fun z hz => ?_, HL0.out, HL1.out, HL2.out, HW6.out, HSZ6.out⟩
        by_cases hzk : z = k
        · subst hzk; exact HTH.out
        · exact HX.out z (by omega)
      case measure => simp [intOf]; omega
    · have hne : (y != x) = true := by simp [hyx]
      have HF := Lib.hid (HB.out.is_false fun h => hyx (by have := h k hlt; rwa [HYE.out, HXE.out] at this))
      clear hyx
      go_wp2_with fail
      refine (tupleOf s r k h1 hs4 hr1 (by omega) (by omega) _).mono ?_
      rintro e w4 ⟨a4, n4, c4, rfl, ho4, hb4⟩
      have HO4 := Lib.hid ho4
      have HW4 := Lib.hid (HW.out.trans (hb4.mono HW.out.size))
      have HK0 := Lib.hid (below_cell hb4 cb0)
      have HK1 := Lib.hid (below_cell hb4 cb1)
      have HK2 := Lib.hid (below_cell hb4 cb2)
      have HSZ : Hid (w.heap.size + 1 ≤ w4.heap.size) := Lib.hid (Nat.le_trans hsz hb4.size)
      clear ho4 hb4 cb0 cb1 cb2
      go_wp2_with fail
      refine (slSort _ _ _ _ (digs s r k) _ HO4.out (by rw [digs_len]; omega) (by rw [digs_len]; omega)).mono ?_
      rintro e w5 ⟨rfl, hr5, hb5⟩
      have HR5 := Lib.hid hr5
      have HW5 : Hid (Below w.heap.size w w5) := Lib.hid (HW4.out.trans (hb5.mono (by have := HW.out.size; omega)))
      have c0 : w5.cell? ⟨w.heap.size, 0, none⟩ = some (.int .i64 s) := by rw [Below.cell hb5 (by show w.heap.size < wr.heap.size; omega)]; exact HK0.out
      have c1 : w5.cell? ⟨w.heap.size, 1, none⟩ = some (.int .i64 r) := by rw [Below.cell hb5 (by show w.heap.size < wr.heap.size; omega)]; exact HK1.out
      have c2 : w5.cell? ⟨w.heap.size, 2, none⟩ = some (.slice (some ⟨b, 0, none⟩) q q) := by rw [Below.cell hb5 (by show w.heap.size < wr.heap.size; omega)]; exact HK2.out
      have HSZ5 : Hid (w.heap.size + 1 ≤ w5.heap.size) := Lib.hid (Nat.le_trans HSZ.out hb5.size)
      clear hr5 hb5
      go_wp2_with fail
      refine (opAt s r b q m G r _ (sortI (digs s r k)) y _ (HTB.out.below HW5.out) HR5.out hs14 hr14 HTU.out HCM.out hmq hq64 HG1.out hyb).mono ?_
      rintro e w6 ⟨rfl, hb6⟩
      have HW6 := Lib.hid (HW5.out.trans (hb6.mono HW5.out.size))
      have HL0 := Lib.hid (below_cell hb6 c0)
      have HL1 := Lib.hid (below_cell hb6 c1)
      have HL2 := Lib.hid (below_cell hb6 c2)
      have HSZ6 : Hid (w.heap.size + 1 ≤ w6.heap.size) := Lib.hid (Nat.le_trans HSZ5.out hb6.size)
      clear hb6 c0 c1 c2
      go_wp2
      go_ret
      exact ⟨ret_bool HF.out.symm, HW6.out⟩
end Go.Proofs.Ytclhcnfgpkhplaa
