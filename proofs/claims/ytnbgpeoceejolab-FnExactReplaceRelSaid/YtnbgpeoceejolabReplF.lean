/-
  ReplaceRel of the program.
-/
import Derived.Test.YtnbgpeoceejolabConjF
namespace Go.Proofs.Ytnbgpeoceejolab
open Go.RowKit

def rplN (fs : List (Int × List Int)) (rel : Int) : Nat → Nat
  | 0 => 0
  | k + 1 => rplN fs rel k + if arO fs k = rel then 1 else 0
/-- How many variables there are when the first k atoms are done. -/
def rplY (v m : Nat) (fs : List (Int × List Int)) (rel : Int) (k : Nat) : Nat := v + m * rplN fs rel k
/-- The atoms when the first k are done. -/
def rplL (v m : Nat) (fs : List (Int × List Int)) (rel : Int) (gs : List (Int × List Int)) : Nat → List (Int × List Int)
  | 0 => []
  | k + 1 => rplL v m fs rel gs k ++ if arO fs k = rel then movedL gs (sayL (rowO fs k) (rplY v m fs rel k) m) else [(arO fs k, rowO fs k)]
theorem rplY_yes {v m : Nat} {fs : List (Int × List Int)} {rel : Int} {k : Nat} (h : arO fs k = rel) : rplY v m fs rel (k + 1) = rplY v m fs rel k + m := by
  unfold rplY
  rw [rplN, if_pos h, Nat.mul_add, Nat.mul_one, Nat.add_assoc]
theorem rplY_no {v m : Nat} {fs : List (Int × List Int)} {rel : Int} {k : Nat} (h : arO fs k ≠ rel) : rplY v m fs rel (k + 1) = rplY v m fs rel k := by
  unfold rplY
  rw [rplN, if_neg h, Nat.add_zero]
theorem rplL_yes {v m : Nat} {fs : List (Int × List Int)} {rel : Int} {gs : List (Int × List Int)} {k : Nat} (h : arO fs k = rel) : rplL v m fs rel gs (k + 1) = rplL v m fs rel gs k ++ movedL gs (sayL (rowO fs k) (rplY v m fs rel k) m) := by rw [rplL, if_pos h]
theorem rplL_no {v m : Nat} {fs : List (Int × List Int)} {rel : Int} {gs : List (Int × List Int)} {k : Nat} (h : arO fs k ≠ rel) : rplL v m fs rel gs (k + 1) = rplL v m fs rel gs k ++ [(arO fs k, rowO fs k)] := by rw [rplL, if_neg h]
theorem rplY_mono {v m : Nat} {fs : List (Int × List Int)} {rel : Int} {k n : Nat} (h : k ≤ n) : rplY v m fs rel k ≤ rplY v m fs rel n := by
  induction n with
  | zero => rw [Nat.le_zero.1 h]; exact Nat.le_refl _
  | succ n ih =>
    by_cases e : k = n + 1
    · rw [e]; exact Nat.le_refl _
    · have h1 := ih (by omega)
      by_cases hr : arO fs n = rel
      · rw [rplY_yes hr]; omega
      · rw [rplY_no hr]; exact h1
theorem rplL_mono {v m : Nat} {fs : List (Int × List Int)} {rel : Int} {gs : List (Int × List Int)} {k n : Nat} (h : k ≤ n) : (rplL v m fs rel gs k).length ≤ (rplL v m fs rel gs n).length := by
  induction n with
  | zero => rw [Nat.le_zero.1 h]; exact Nat.le_refl _
  | succ n ih =>
    by_cases e : k = n + 1
    · rw [e]; exact Nat.le_refl _
    · have h1 := ih (by omega)
      by_cases hr : arO fs n = rel
      · rw [rplL_yes hr, List.length_append]; omega
      · rw [rplL_no hr, List.length_append]; omega
def RplFits (v m : Nat) (fs : List (Int × List Int)) (rel : Int) (gs : List (Int × List Int)) (k : Nat) : Prop := rplY v m fs rel k ≤ 8 ∧ (rplL v m fs rel gs k).length ≤ 16
theorem RplFits.mono {v m : Nat} {fs : List (Int × List Int)} {rel : Int} {gs : List (Int × List Int)} {k n : Nat} (h : RplFits v m fs rel gs n) (hk : k ≤ n) : RplFits v m fs rel gs k := ⟨Nat.le_trans (rplY_mono hk) h.1, Nat.le_trans (rplL_mono hk) h.2⟩
theorem mapped_cnts (v : Nat) (xs : List Int) (h : ∀ i, i < xs.length → 0 ≤ intN xs i ∧ intN xs i < v) : mapped (cnts v) xs = xs := by
  apply List.ext_getElem?
  intro j
  by_cases hj : j < xs.length
  · have h1 := h j hj
    have h2 := mapped_at (cnts v) xs j hj
    rw [cnts_at v _ (by omega)] at h2
    have hm : j < (mapped (cnts v) xs).length := by rw [mapped_len]; exact hj
    rw [List.getElem?_eq_getElem hm, List.getElem?_eq_getElem hj]
    rw [intN_at _ _ hm] at h2
    have h3 := intN_at xs j hj
    rw [h2, ← h3]
    have : ((intN xs j).toNat : Int) = intN xs j := by omega
    rw [this]
  · rw [List.getElem?_eq_none (by rw [mapped_len]; omega), List.getElem?_eq_none (by omega)]

set_option linter.unusedSimpArgs false in
set_option maxHeartbeats 2000000 in
set_option maxRecDepth 100000 in
theorem replPick (nb rel vg : Int) (q pg pr : Nat) (a3 : Option Addr) (n3 c3 : Nat) (w : World) (hg0 : w.cell? ⟨pg, 0, none⟩ = some (.int .i64 (q : Int))) (hg1 : w.cell? ⟨pg, 1, none⟩ = some (.int .i64 vg)) (hg2 : w.cell? ⟨pg, 2, none⟩ = some (.slice a3 n3 c3)) (hr0 : w.cell? ⟨pr, 0, none⟩ = some (.int .i64 rel)) :
    Calls Try.prog 54 #[.int .i64 nb, .pointer (some ⟨pg, 0, none⟩), .pointer (some ⟨pr, 0, none⟩)] w fun e w' => e = .returned (.tuple #[.agg #[.int .i64 (q : Int), .int .i64 vg, .slice a3 n3 c3], .bool (nb == rel)]) ∧ Below w.heap.size w w' := by
  have hbl : Below w.heap.size w (w.alloc (.cells #[.int .i64 0, .int .i64 0, .slice none 0 0] 32)) := (Below.refl _ _).alloc (Nat.le_refl _) _
  have z0 := below_cell hbl hg0
  have z1 := below_cell hbl hg1
  have z2 := below_cell hbl hg2
  have z3 := below_cell hbl hr0
  have HBN := Lib.hid (Box.new 32 w #[.int .i64 0, .int .i64 0, .slice none 0 0])
  have HBL := Lib.hid hbl
  have hbs : Below w.heap.size w (w.alloc (.cells #[.int .i64 (q : Int), .int .i64 vg, .slice a3 n3 c3] 32)) := (Below.refl _ _).alloc (Nat.le_refl _) _
  have HZ9 := Lib.hid (below_cell hbs hr0)
  have HBS := Lib.hid hbs
  have HBO := Lib.hid (Box.new 32 w #[.int .i64 (q : Int), .int .i64 vg, .slice a3 n3 c3])
  clear hbs
  clear hbl hg0 hg1 hg2 hr0
  go_enter Try.func54, Try.ntmps54
  go_wp2
  refine wp_region_noPanic ?_
  refine wp_region_late (S := (fun w' => w'.cell? ⟨pg, 0, none⟩ = some (.int .i64 (q : Int)) ∧ w'.cell? ⟨pg, 1, none⟩ = some (.int .i64 vg) ∧ w'.cell? ⟨pg, 2, none⟩ = some (.slice a3 n3 c3) ∧ w'.cell? ⟨pr, 0, none⟩ = some (.int .i64 rel) ∧ Below (w.heap.size + 1) (w.alloc (.cells #[.int .i64 0, .int .i64 0, .slice none 0 0] 32)) w')) [4] (by kernel_rfl) ?_ (fun hHeld => ?_)
  · exact ⟨z0, z1, z2, z3, (QW.refl _).drew.below _⟩
  refine wpAnyL_take (i := 0) (v := ?_) (some 6) rfl rfl (by kernel_rfl) (by kernel_rfl) (by kernel_rfl) (by kernel_rfl) (by kernel_rfl) (fun _ _ _ h => h) (Or.inl ⟨by rfl, ?_⟩) (by assumption) ?_
  rotate_left
  · intro wS hSw
    try dsimp only at hSw
    go_simp
    try with_reducible rfl
  try simp only [Act.put, List.setIfInBounds_toArray, List.set_cons_zero, List.set_cons_succ]
  refine wpAnyL_free (i := 1) (v := ?_) (some 7) rfl rfl (by kernel_rfl) (by kernel_rfl) (by kernel_rfl) (by decide) (fun _ _ _ h => h) (Or.inl ⟨by rfl, ?_⟩) (fun h0 => by assumption) ?_
  rotate_left
  · intro wS
    go_simp
    try with_reducible rfl
  try simp only [Act.put, List.setIfInBounds_toArray, List.set_cons_zero, List.set_cons_succ]
  refine wpAnyL_ready (rs := [2, 4]) (by kernel_rfl) (by simp) ?_
  refine AllReadyL.cons rfl (fun K hK => ?_) ?_
  · skip
    go_simp
    refine hK.out _ _ ?_ (fun hHeld => ?_)
    · exact hHeld
    clear hK K
    try simp only [Act.put, List.setIfInBounds_toArray, List.set_cons_zero, List.set_cons_succ]
    refine wpAnyL_free (i := 3) (v := ?_) (some 9) rfl rfl (by kernel_rfl) (by kernel_rfl) (by kernel_rfl) (by decide) (fun _ _ _ h => h) (Or.inl ⟨by rfl, ?_⟩) (fun h0 => by assumption) ?_
    rotate_left
    · intro wS
      go_simp
      try with_reducible rfl
    try simp only [Act.put, List.setIfInBounds_toArray, List.set_cons_zero, List.set_cons_succ]
    refine wpAnyL_ready (rs := [4]) (by kernel_rfl) (by simp) ?_
    refine AllReadyL.last rfl (by kernel_rfl) (fun K hK => ?_) AllReadyL.nil
    clear hHeld
    have HE := HBN.out.below ((QW.refl _).drew.below _)
    have e0 := HE.c 0 rfl
    have f0 := HE.free 0
    have e1 := HE.c 1 rfl
    have f1 := HE.free 1
    have e2 := HE.c 2 rfl
    have f2 := HE.free 2
    clear HE z0 z1 z2
    go_simp
    refine hK.out _ _ ?_
    clear hK K
    try simp only [Act.put, List.setIfInBounds_toArray, List.set_cons_zero, List.set_cons_succ]
    refine wpAnyL_free (i := 5) (v := ?_) (some 5) rfl rfl (by kernel_rfl) (by kernel_rfl) (by kernel_rfl) (by decide) (fun _ _ _ h => h) (Or.inl ⟨by rfl, ?_⟩) (fun h0 => absurd h0 (by decide)) ?_
    rotate_left
    · intro wS
      go_simp
      try with_reducible rfl
    try simp only [Act.put, List.setIfInBounds_toArray, List.set_cons_zero, List.set_cons_succ]
    refine wpAnyL_done (by kernel_rfl) ?_ _
    refine NoPanic.normal ?_
    clear e0 e1 e2 f0 f1 f2
    have e0 := HBO.out.c 0 rfl
    have e1 := HBO.out.c 1 rfl
    have e2 := HBO.out.c 2 rfl
    go_wp2
    refine bodyPost_ret (v := .tuple #[.agg #[.int .i64 (q : Int), .int .i64 vg, .slice a3 n3 c3], .bool (nb == rel)]) (by simp [results, Try.results54, go_sem, e0, e1, e2]) rfl ⟨rfl, ?_⟩
    exact HBS.out.drew
  refine AllReadyL.last rfl (by kernel_rfl) (fun K hK => ?_) AllReadyL.nil
  clear hHeld
  have HE := HBN.out.below ((QW.refl _).drew.below _)
  have e0 := HE.c 0 rfl
  have f0 := HE.free 0
  have e1 := HE.c 1 rfl
  have f1 := HE.free 1
  have e2 := HE.c 2 rfl
  have f2 := HE.free 2
  clear HE z0 z1 z2
  go_simp
  refine hK.out _ _ ?_
  clear hK K
  try simp only [Act.put, List.setIfInBounds_toArray, List.set_cons_zero, List.set_cons_succ]
  refine wpAnyL_ready (rs := [2]) (by kernel_rfl) (by simp) ?_
  refine AllReadyL.last rfl (by kernel_rfl) (fun K hK => ?_) AllReadyL.nil
  have z9 := HZ9.out
  go_simp
  refine hK.out _ _ ?_
  clear hK K
  try simp only [Act.put, List.setIfInBounds_toArray, List.set_cons_zero, List.set_cons_succ]
  refine wpAnyL_free (i := 3) (v := ?_) (some 9) rfl rfl (by kernel_rfl) (by kernel_rfl) (by kernel_rfl) (by decide) (fun _ _ _ h => h) (Or.inl ⟨by rfl, ?_⟩) (fun h0 => absurd h0 (by decide)) ?_
  rotate_left
  · intro wS
    go_simp
    try with_reducible rfl
  try simp only [Act.put, List.setIfInBounds_toArray, List.set_cons_zero, List.set_cons_succ]
  refine wpAnyL_free (i := 5) (v := ?_) (some 5) rfl rfl (by kernel_rfl) (by kernel_rfl) (by kernel_rfl) (by decide) (fun _ _ _ h => h) (Or.inl ⟨by rfl, ?_⟩) (fun h0 => absurd h0 (by decide)) ?_
  rotate_left
  · intro wS
    go_simp
    try with_reducible rfl
  try simp only [Act.put, List.setIfInBounds_toArray, List.set_cons_zero, List.set_cons_succ]
  refine wpAnyL_done (by kernel_rfl) ?_ _
  refine NoPanic.normal ?_
  clear e0 e1 e2 f0 f1 f2
  have e0 := HBO.out.c 0 rfl
  have e1 := HBO.out.c 1 rfl
  have e2 := HBO.out.c 2 rfl
  go_wp2
  refine bodyPost_ret (v := .tuple #[.agg #[.int .i64 (q : Int), .int .i64 vg, .slice a3 n3 c3], .bool (nb == rel)]) (by simp [results, Try.results54, go_sem, e0, e1, e2]) rfl ⟨rfl, ?_⟩
  exact HBS.out.drew

set_option linter.unusedSimpArgs false in
set_option maxHeartbeats 2000000 in
set_option maxRecDepth 100000 in
theorem replBody_ok (w wb : World) (b pf pc pr pg v m q : Nat) (fr rel vg : Int) (a2 : Option Addr) (n2 c2 : Nat) (a3 : Option Addr) (n3 c3 : Nat) (fs gs : List (Int × List Int))
    (hbx : Box 96 w b #[.int .i64 fr, .int .i64 ((v : Int)), .slice none 0 0, .int .i64 8, .int .i64 16]) (hwb : wb.heap.size ≤ b) (hbel : Below wb.heap.size wb w)
    (hc0 : wb.cell? ⟨pc, 0, none⟩ = some (.func (.func 54) #[] #[.pointer (some ⟨pg, 0, none⟩), .pointer (some ⟨pr, 0, none⟩)])) (hf0 : wb.cell? ⟨pf, 1, none⟩ = some (.int .i64 (v : Int))) (hf2 : wb.cell? ⟨pf, 2, none⟩ = some (.slice a2 n2 c2)) (hr0 : wb.cell? ⟨pr, 0, none⟩ = some (.int .i64 rel))
    (hg0 : wb.cell? ⟨pg, 0, none⟩ = some (.int .i64 (q : Int))) (hg1 : wb.cell? ⟨pg, 1, none⟩ = some (.int .i64 vg)) (hg2 : wb.cell? ⟨pg, 2, none⟩ = some (.slice a3 n3 c3))
    (hf : OpsAt wb (.slice a2 n2 c2) fs) (hg : OpsAt wb (.slice a3 n3 c3) gs) (hq0 : 0 < q) (hq4 : q ≤ 4) (hvg : vg = q + m) (_ : m ≤ 8) (hv8 : v ≤ 8)
    (hfl : ∀ k, k < fs.length → (rowO fs k).length ≤ 1000) (hfr : ∀ k, k < fs.length → ∀ i, i < (rowO fs k).length → 0 ≤ intN (rowO fs k) i ∧ intN (rowO fs k) i < v)
    (hfq : ∀ k, k < fs.length → arO fs k = rel → (rowO fs k).length = q)
    (hgl : ∀ k, k < gs.length → (rowO gs k).length ≤ 1000) (hgr : ∀ k, k < gs.length → ∀ i, i < (rowO gs k).length → 0 ≤ intN (rowO gs k) i ∧ intN (rowO gs k) i < vg) (hfit : RplFits v m fs rel gs fs.length) :
    Calls Try.prog 76 #[.pointer (some ⟨b, 0, none⟩), .pointer (some ⟨pf, 0, none⟩), .pointer (some ⟨pc, 0, none⟩)] w fun e w' => e = .returned (.tuple #[]) ∧ ∃ a' n' c', Box 96 w' b #[.int .i64 fr, .int .i64 (((rplY v m fs rel fs.length : Nat) : Int)), .slice a' n' c', .int .i64 8, .int .i64 16] ∧ OwnOps 83 w' (b + 1) w'.heap.size (.slice a' n' c') (rplL v m fs rel gs fs.length) ∧ Below b w w' := by
  obtain rfl : n2 = fs.length := by obtain ⟨_, _, hv, _⟩ := hf; simp only [Value.slice.injEq] at hv; exact hv.2.1
  have HBX := Lib.hid hbx
  have HBL := Lib.hid hbel
  have s2 := below_cell hbel hf2
  have hz0 : b + 1 ≤ w.heap.size := hbx.lt
  have HVG := Lib.hid hvg
  have HF0 := Lib.hid hf0
  have HC0 := Lib.hid hc0
  have HRC := Lib.hid hr0
  have HG0 := Lib.hid hg0
  have HG1 := Lib.hid hg1
  have HG2 := Lib.hid hg2
  have HF := Lib.hid hf
  have HG := Lib.hid hg
  have HFL := Lib.hid hfl
  have HFR := Lib.hid hfr
  have HFQ := Lib.hid hfq
  have HGL := Lib.hid hgl
  have HGR := Lib.hid hgr
  have HFIT := Lib.hid hfit
  have HV8 : Hid (RplFits v m fs rel gs 0) := Lib.hid ⟨by show v + m * 0 ≤ 8; omega, by simp [rplL]⟩
  clear hbx hbel hvg hc0 hf0 hf2 hr0 hg0 hg1 hg2 hf hg hfl hfr hfq hgl hgr hfit
  go_enter Try.func76, Try.ntmps76
  go_wp2
  clear s2
  go_loopw [11] (fun i wr => ∃ (k : Nat) (a : Option Addr) (n c : Nat), k ≤ fs.length ∧ RplFits v m fs rel gs k ∧ i = .int .i64 k ∧ Box 96 wr b #[.int .i64 fr, .int .i64 (((rplY v m fs rel k : Nat) : Int)), .slice a n c, .int .i64 8, .int .i64 16] ∧ OwnOps 83 wr (b + 1) wr.heap.size (.slice a n c) (rplL v m fs rel gs k) ∧ b + 1 ≤ wr.heap.size ∧ Below wb.heap.size wb wr ∧ Below b w wr) (fun i _ => fs.length - (intOf i).toNat)
  case atStart => exact ⟨0, none, 0, 0, Nat.zero_le _, HV8.out, rfl, HBX.out, OwnOps.nil _ _ _ _ (Nat.le_refl _), hz0, HBL.out, Below.refl _ _⟩
  case round =>
    obtain ⟨k, a, n, c, hk, hfk, rfl, hbx, hol, hsz, hbw, hbb⟩ := hrel
    have HFK := Lib.hid hfk
    have HBB := Lib.hid hbb
    by_cases hlt : k < fs.length
    · have hlt' : (k : Int) < (fs.length : Int) := by omega
      obtain ⟨fa, fc, hfv, hfn, hfc⟩ := HF.out.below hbw
      simp only [Value.slice.injEq] at hfv
      obtain ⟨rfl, _, rfl⟩ := hfv
      obtain ⟨b1, off1, ha1, hcell1⟩ := hfc (by omega)
      subst ha1
      obtain ⟨z0, a4, n4, c4, z1, hrw⟩ := hcell1 k hlt
      have hal0 := (Below.refl wr.heap.size wr).alloc (Nat.le_refl _) (.cells #[.int .i64 (arO fs k), .slice a4 n4 c4] 83)
      have HBL0 := Lib.hid (hbw.trans (hal0.mono hbw.size))
      have BC := Box.new 83 wr #[.int .i64 (arO fs k), .slice a4 n4 c4]
      have y0 := BC.c 0 rfl
      have y1 := BC.c 1 rfl
      have HBC := Lib.hid BC
      have yc := below_cell HBL0.out HC0.out
      clear hfc hcell1 BC
      go_wp2_with fail
      refine (replPick (arO fs k) rel vg q pg pr a3 n3 c3 _ (below_cell HBL0.out HG0.out) (below_cell HBL0.out HG1.out) (below_cell HBL0.out HG2.out) (below_cell HBL0.out HRC.out)).mono ?_
      rintro e w3 ⟨rfl, hb3⟩
      clear y0 y1 yc
      have hal3 := (Below.refl w3.heap.size w3).alloc (Nat.le_refl _) (.cells #[.int .i64 (q : Int), .int .i64 vg, .slice a3 n3 c3] 32)
      have hs3 : wr.heap.size + 1 ≤ w3.heap.size := by have := hb3.size; simpa using this
      have hal : Below wr.heap.size wr (w3.alloc (.cells #[.int .i64 (q : Int), .int .i64 vg, .slice a3 n3 c3] 32)) := hal0.trans ((hb3.mono (by simp)).trans (hal3.mono (by omega)))
      have HBLA := Lib.hid (hbw.trans (hal.mono hbw.size))
      have yv := below_cell HBLA.out HF0.out
      have HBC3 := Lib.hid ((HBC.out.below hb3).below hal3)
      have y0 := HBC3.out.c 0 rfl
      have y1 := HBC3.out.c 1 rfl
      have BCG := Box.new 32 w3 #[.int .i64 (q : Int), .int .i64 vg, .slice a3 n3 c3]
      have t0 := BCG.c 0 rfl
      have t1 := BCG.c 1 rfl
      have t2 := BCG.c 2 rfl
      have HBXA := Lib.hid (hbx.below hal)
      have HOA := Lib.hid ((hol.below hal).full)
      have HZA : Hid (b + 1 ≤ (w3.alloc (.cells #[.int .i64 (q : Int), .int .i64 vg, .slice a3 n3 c3] 32)).heap.size) := Lib.hid (Nat.le_trans hsz hal.size)
      have HBA := Lib.hid (HBB.out.trans (hal.mono (Nat.le_trans (Nat.le_succ _) hsz)))
      have HROW := Lib.hid (hrw.below hal)
      clear hrw hal hal0 hal3 hb3 hbx hol hbw hbb BCG HBC hfk
      by_cases hrel2 : arO fs k = rel
      · have hrq := HFQ.out k hlt hrel2
        have hrb : (arO fs k == rel) = true := beq_iff_eq.2 hrel2
        have HREL := Lib.hid hrel2
        clear hrel2
        obtain rfl : q = n4 := by obtain ⟨_, _, hv, _⟩ := HROW.out; simp only [Value.slice.injEq] at hv; omega
        have HFT := Lib.hid (HFIT.out.mono (show k + 1 ≤ fs.length from hlt))
        have hsy := say_ok (w3.alloc (.cells #[.int .i64 (q : Int), .int .i64 vg, .slice a3 n3 c3] 32)) b (b + 1) (rplY v m fs rel k) m vg fr a n c (rplL v m fs rel gs k) gs (.slice a3 n3 c3) (.slice a4 q c4) (rowO fs k) wb HBXA.out (Nat.lt_succ_self _) HZA.out HOA.out hwb HBLA.out HG.out HROW.out (by rw [hrq]; exact hq0) (by rw [hrq]; exact HVG.out) (by rw [hrq]; omega) (by have := HFT.out.1; rw [rplY_yes HREL.out] at this; omega) (by have := HFT.out.2; rw [rplL_yes HREL.out, List.length_append, movedL_len] at this; omega) HGL.out HGR.out
        rw [hrq] at hsy
        have HSY := Lib.hid hsy
        clear hsy hrq
        go_wp2_with (go_at_call 36; refine HSY.out.mono ?_; rintro e w7 ⟨rfl, a7, n7, c7, hx7, ho7, hb7⟩; have HX7 := Lib.hid hx7; have HO7 := Lib.hid ho7; have HB7 := Lib.hid hb7; clear hx7 ho7 hb7)
        have HZ7 := Lib.hid (show b + 1 ≤ w7.heap.size from HX7.out.lt)
        have HBE := Lib.hid (HBA.out.trans HB7.out)
        have HWE := Lib.hid (HBLA.out.trans (HB7.out.mono hwb))
        go_roundw
        case rel =>
          refine ⟨k + 1, a7, n7, c7, by omega, HFT.out, by go_num, ?_, ?_, HZ7.out, HWE.out, HBE.out⟩
          · rw [rplY_yes HREL.out]; exact HX7.out
          · rw [rplL_yes HREL.out]; exact HO7.out
        case measure => simp [intOf]; omega
      · have hrb : (arO fs k == rel) = false := beq_eq_false_iff_ne.2 hrel2
        have HFT := Lib.hid (HFIT.out.mono (show k + 1 ≤ fs.length from hlt))
        go_wp2
        refine wp_region_noPanic ?_
        refine wp_region_late (S := (fun w' => w'.cell? ⟨wr.heap.size, 0, none⟩ = some (.int .i64 (arO fs k)) ∧ w'.cell? ⟨wr.heap.size, 1, none⟩ = some (.slice a4 n4 c4) ∧ w'.cell? ⟨pf, 1, none⟩ = some (.int .i64 (v : Int)) ∧ Below (w3.alloc (.cells #[.int .i64 (q : Int), .int .i64 vg, .slice a3 n3 c3] 32)).heap.size (w3.alloc (.cells #[.int .i64 (q : Int), .int .i64 vg, .slice a3 n3 c3] 32)) w')) [6] (by kernel_rfl) ?_ (fun hHeld => ?_)
        · exact ⟨y0, y1, yv, (QW.refl _).drew.below _⟩
        refine wpAnyL_free (i := 0) (v := ?_) (some 28) rfl rfl (by kernel_rfl) (by kernel_rfl) (by kernel_rfl) (by decide) (fun _ _ _ h => h) (Or.inl ⟨by rfl, ?_⟩) (fun h0 => by assumption) ?_
        rotate_left
        · intro wS
          go_simp
          try with_reducible rfl
        try simp only [Act.put, List.setIfInBounds_toArray, List.set_cons_zero, List.set_cons_succ]
        refine wpAnyL_take (i := 1) (v := ?_) (some 29) rfl rfl (by kernel_rfl) (by kernel_rfl) (by kernel_rfl) (by kernel_rfl) (by kernel_rfl) (fun _ _ _ h => h) (Or.inl ⟨by rfl, ?_⟩) (by assumption) ?_
        rotate_left
        · intro wS hSw
          try dsimp only at hSw
          go_simp
          try with_reducible rfl
        try simp only [Act.put, List.setIfInBounds_toArray, List.set_cons_zero, List.set_cons_succ]
        refine wpAnyL_free (i := 2) (v := ?_) (some 30) rfl rfl (by kernel_rfl) (by kernel_rfl) (by kernel_rfl) (by decide) (fun _ _ _ h => h) (Or.inl ⟨by rfl, ?_⟩) (fun h0 => by assumption) ?_
        rotate_left
        · intro wS
          go_simp
          try with_reducible rfl
        try simp only [Act.put, List.setIfInBounds_toArray, List.set_cons_zero, List.set_cons_succ]
        refine wpAnyL_take (i := 3) (v := ?_) (some 31) rfl rfl (by kernel_rfl) (by kernel_rfl) (by kernel_rfl) (by kernel_rfl) (by kernel_rfl) (fun _ _ _ h => h) (Or.inl ⟨by rfl, ?_⟩) (by assumption) ?_
        rotate_left
        · intro wS hSw
          try dsimp only at hSw
          go_simp
          try with_reducible rfl
        try simp only [Act.put, List.setIfInBounds_toArray, List.set_cons_zero, List.set_cons_succ]
        refine wpAnyL_ready (rs := [4]) (by kernel_rfl) (by simp) ?_
        refine AllReadyL.cons rfl (fun K hK => ?_) AllReadyL.nil
        go_simp; go_at_call 37; refine (numbersBelow v (by omega) _).mono ?_; rintro e w5 ⟨a5, c5, rfl, ho5, hb5⟩
        have HP5 := Lib.hid ho5.rowAt
        have HB5 := Lib.hid (hHeld.2.2.2.trans (hb5.mono hHeld.2.2.2.size))
        clear ho5
        refine hK.out _ _ ?_ (fun hHeld => ?_)
        · exact ⟨below_cell hb5 hHeld.1, below_cell hb5 hHeld.2.1, below_cell hb5 hHeld.2.2.1, hHeld.2.2.2.trans (hb5.mono hHeld.2.2.2.size)⟩
        clear hK K
        try simp only [Act.put, List.setIfInBounds_toArray, List.set_cons_zero, List.set_cons_succ]
        refine wpAnyL_ready (rs := [5]) (by kernel_rfl) (by simp) ?_
        refine AllReadyL.cons rfl (fun K hK => ?_) AllReadyL.nil
        go_simp; go_at_call 65; refine (renamed (arO fs k) a4 n4 c4 _ (rowO fs k) (cnts v) _ (HROW.out.below hHeld.2.2.2) HP5.out (HFL.out k hlt) (fun i hi => by rw [cnts_len]; exact HFR.out k hlt i hi)).mono ?_; rintro e w6 ⟨a6, n6, c6, rfl, ho6, hb6⟩
        have HO6 := Lib.hid (show OwnRow w6 (w3.alloc (.cells #[.int .i64 (q : Int), .int .i64 vg, .slice a3 n3 c3] 32)).heap.size (.slice a6 n6 c6) (rowO fs k) from by have := (ho6.row.mono (B' := (w3.alloc (.cells #[.int .i64 (q : Int), .int .i64 vg, .slice a3 n3 c3] 32)).heap.size) hHeld.2.2.2.size); rwa [mapped_cnts v _ (HFR.out k hlt)] at this)
        have HB6 := Lib.hid (hHeld.2.2.2.trans (hb6.mono hHeld.2.2.2.size))
        clear ho6
        refine hK.out _ _ ?_ (fun hHeld => ?_)
        · exact ⟨below_cell hb6 hHeld.1, below_cell hb6 hHeld.2.1, below_cell hb6 hHeld.2.2.1, hHeld.2.2.2.trans (hb6.mono hHeld.2.2.2.size)⟩
        clear hK K
        try simp only [Act.put, List.setIfInBounds_toArray, List.set_cons_zero, List.set_cons_succ]
        refine wpAnyL_ready (rs := [6]) (by kernel_rfl) (by simp) ?_
        refine AllReadyL.last rfl (by kernel_rfl) (fun K hK => ?_) AllReadyL.nil
        have had := addAtom_ok (w3.alloc (.cells #[.int .i64 (q : Int), .int .i64 vg, .slice a3 n3 c3] 32)) w6 b (b + 1) fr ((rplY v m fs rel k : Nat) : Int) (arO fs k) a a6 n c n6 c6 (rplL v m fs rel gs k) (rowO fs k) (HBXA.out.below HB6.out) (Nat.lt_succ_self _) HZA.out HOA.out HB6.out HO6.out (by have := HFT.out.2; rw [rplL_no hrel2, List.length_append] at this; simp at this; omega)
        go_simp; go_at_call 64; refine had.mono ?_; rintro e w7 ⟨rfl, a7, n7, c7, hx7, ho7, hn7, ht7⟩
        have HX7 := Lib.hid hx7
        have HO7 := Lib.hid ho7
        have hlo : ∀ g, (Value.slice a n c).ownBlock = some g → b + 1 ≤ g := fun g hg => by
          obtain ⟨V, hV⟩ := HOA.out
          obtain ⟨zs, hz, _⟩ := hV.outer
          exact (World.ownsRow.lt hz g hg).1
        have HB7 := Lib.hid (hn7.below (B := b) (by have := HB6.out.size; have := HZA.out; omega) (fun g hg => by
          rcases hg with e | e
          · omega
          · have := hlo g e.symm; omega))
        have HS7 := Lib.hid hn7.size
        clear had hx7 ho7 hn7 ht7 hlo
        refine hK.out _ _ ?_
        clear hK K
        try simp only [Act.put, List.setIfInBounds_toArray, List.set_cons_zero, List.set_cons_succ]
        refine wpAnyL_done (by kernel_rfl) ?_ _
        refine NoPanic.normal ?_
        have HZ7 := Lib.hid (show b + 1 ≤ w7.heap.size from Nat.le_trans (Nat.le_trans HZA.out HB6.out.size) HS7.out)
        have HBE := Lib.hid (HBA.out.trans ((HB6.out.mono (Nat.le_trans (Nat.le_succ _) HZA.out)).trans HB7.out))
        have HWE := Lib.hid (HBLA.out.trans (((HB6.out.mono (Nat.le_trans (Nat.le_succ _) HZA.out)).trans HB7.out).mono hwb))
        go_wp2
        go_roundw
        case rel =>
          refine ⟨k + 1, a7, n7, c7, by omega, HFT.out, by go_num, ?_, ?_, HZ7.out, HWE.out, HBE.out⟩
          · rw [rplY_no hrel2]; exact HX7.out
          · rw [rplL_no hrel2]; exact HO7.out
        case measure => simp [intOf]; omega
    · obtain rfl : k = fs.length := by omega
      have HX7 := Lib.hid hbx
      have HO7 := Lib.hid hol
      clear hbx hol hbw hbb
      go_wp2
      exact ⟨rfl, .tuple #[], results_none rfl _ _ _, rfl, a, n, c, HX7.out, HO7.out, HBB.out⟩

set_option linter.unusedSimpArgs false in
set_option maxHeartbeats 2000000 in
set_option maxRecDepth 100000 in
theorem replBody_told (w wb : World) (b pf pc pr pg v m q : Nat) (fr rel vg : Int) (a2 : Option Addr) (n2 c2 : Nat) (a3 : Option Addr) (n3 c3 : Nat) (fs gs : List (Int × List Int))
    (hbx : Box 96 w b #[.int .i64 fr, .int .i64 ((v : Int)), .slice none 0 0, .int .i64 8, .int .i64 16]) (hwb : wb.heap.size ≤ b) (hbel : Below wb.heap.size wb w)
    (hc0 : wb.cell? ⟨pc, 0, none⟩ = some (.func (.func 54) #[] #[.pointer (some ⟨pg, 0, none⟩), .pointer (some ⟨pr, 0, none⟩)])) (hf0 : wb.cell? ⟨pf, 1, none⟩ = some (.int .i64 (v : Int))) (hf2 : wb.cell? ⟨pf, 2, none⟩ = some (.slice a2 n2 c2)) (hr0 : wb.cell? ⟨pr, 0, none⟩ = some (.int .i64 rel))
    (hg0 : wb.cell? ⟨pg, 0, none⟩ = some (.int .i64 (q : Int))) (hg1 : wb.cell? ⟨pg, 1, none⟩ = some (.int .i64 vg)) (hg2 : wb.cell? ⟨pg, 2, none⟩ = some (.slice a3 n3 c3))
    (hf : OpsAt wb (.slice a2 n2 c2) fs) (hg : OpsAt wb (.slice a3 n3 c3) gs) (hq0 : 0 < q) (hq4 : q ≤ 4) (hvg : vg = q + m) (hm8 : m ≤ 8) (hv8 : v ≤ 8)
    (hfl : ∀ k, k < fs.length → (rowO fs k).length ≤ 1000) (hfr : ∀ k, k < fs.length → ∀ i, i < (rowO fs k).length → 0 ≤ intN (rowO fs k) i ∧ intN (rowO fs k) i < v)
    (hfq : ∀ k, k < fs.length → arO fs k = rel → (rowO fs k).length = q)
    (hgl : ∀ k, k < gs.length → (rowO gs k).length ≤ 1000) (hgr : ∀ k, k < gs.length → ∀ i, i < (rowO gs k).length → 0 ≤ intN (rowO gs k) i ∧ intN (rowO gs k) i < vg) (hfit : ¬ RplFits v m fs rel gs fs.length) :
    Calls Try.prog 76 #[.pointer (some ⟨b, 0, none⟩), .pointer (some ⟨pf, 0, none⟩), .pointer (some ⟨pc, 0, none⟩)] w fun e w' => e = .panicked [{ v := tooBig, recovered := false }] ∧ Below b w w' := by
  obtain rfl : n2 = fs.length := by obtain ⟨_, _, hv, _⟩ := hf; simp only [Value.slice.injEq] at hv; exact hv.2.1
  have HBX := Lib.hid hbx
  have HBL := Lib.hid hbel
  have s2 := below_cell hbel hf2
  have hz0 : b + 1 ≤ w.heap.size := hbx.lt
  have HVG := Lib.hid hvg
  have HF0 := Lib.hid hf0
  have HC0 := Lib.hid hc0
  have HRC := Lib.hid hr0
  have HG0 := Lib.hid hg0
  have HG1 := Lib.hid hg1
  have HG2 := Lib.hid hg2
  have HF := Lib.hid hf
  have HG := Lib.hid hg
  have HFL := Lib.hid hfl
  have HFR := Lib.hid hfr
  have HFQ := Lib.hid hfq
  have HGL := Lib.hid hgl
  have HGR := Lib.hid hgr
  have HFIT := Lib.hid hfit
  have HV8 : Hid (RplFits v m fs rel gs 0) := Lib.hid ⟨by show v + m * 0 ≤ 8; omega, by simp [rplL]⟩
  clear hbx hbel hvg hc0 hf0 hf2 hr0 hg0 hg1 hg2 hf hg hfl hfr hfq hgl hgr hfit
  go_enter Try.func76, Try.ntmps76
  go_wp2
  clear s2
  go_loopw [11] (fun i wr => ∃ (k : Nat) (a : Option Addr) (n c : Nat), k ≤ fs.length ∧ RplFits v m fs rel gs k ∧ i = .int .i64 k ∧ Box 96 wr b #[.int .i64 fr, .int .i64 (((rplY v m fs rel k : Nat) : Int)), .slice a n c, .int .i64 8, .int .i64 16] ∧ OwnOps 83 wr (b + 1) wr.heap.size (.slice a n c) (rplL v m fs rel gs k) ∧ b + 1 ≤ wr.heap.size ∧ Below wb.heap.size wb wr ∧ Below b w wr) (fun i _ => fs.length - (intOf i).toNat)
  case atStart => exact ⟨0, none, 0, 0, Nat.zero_le _, HV8.out, rfl, HBX.out, OwnOps.nil _ _ _ _ (Nat.le_refl _), hz0, HBL.out, Below.refl _ _⟩
  case round =>
    obtain ⟨k, a, n, c, hk, hfk, rfl, hbx, hol, hsz, hbw, hbb⟩ := hrel
    have HFK := Lib.hid hfk
    have HBB := Lib.hid hbb
    by_cases hlt : k < fs.length
    · have hlt' : (k : Int) < (fs.length : Int) := by omega
      obtain ⟨fa, fc, hfv, hfn, hfc⟩ := HF.out.below hbw
      simp only [Value.slice.injEq] at hfv
      obtain ⟨rfl, _, rfl⟩ := hfv
      obtain ⟨b1, off1, ha1, hcell1⟩ := hfc (by omega)
      subst ha1
      obtain ⟨z0, a4, n4, c4, z1, hrw⟩ := hcell1 k hlt
      have hal0 := (Below.refl wr.heap.size wr).alloc (Nat.le_refl _) (.cells #[.int .i64 (arO fs k), .slice a4 n4 c4] 83)
      have HBL0 := Lib.hid (hbw.trans (hal0.mono hbw.size))
      have BC := Box.new 83 wr #[.int .i64 (arO fs k), .slice a4 n4 c4]
      have y0 := BC.c 0 rfl
      have y1 := BC.c 1 rfl
      have HBC := Lib.hid BC
      have yc := below_cell HBL0.out HC0.out
      clear hfc hcell1 BC
      go_wp2_with fail
      refine (replPick (arO fs k) rel vg q pg pr a3 n3 c3 _ (below_cell HBL0.out HG0.out) (below_cell HBL0.out HG1.out) (below_cell HBL0.out HG2.out) (below_cell HBL0.out HRC.out)).mono ?_
      rintro e w3 ⟨rfl, hb3⟩
      clear y0 y1 yc
      have hal3 := (Below.refl w3.heap.size w3).alloc (Nat.le_refl _) (.cells #[.int .i64 (q : Int), .int .i64 vg, .slice a3 n3 c3] 32)
      have hs3 : wr.heap.size + 1 ≤ w3.heap.size := by have := hb3.size; simpa using this
      have hal : Below wr.heap.size wr (w3.alloc (.cells #[.int .i64 (q : Int), .int .i64 vg, .slice a3 n3 c3] 32)) := hal0.trans ((hb3.mono (by simp)).trans (hal3.mono (by omega)))
      have HBLA := Lib.hid (hbw.trans (hal.mono hbw.size))
      have yv := below_cell HBLA.out HF0.out
      have HBC3 := Lib.hid ((HBC.out.below hb3).below hal3)
      have y0 := HBC3.out.c 0 rfl
      have y1 := HBC3.out.c 1 rfl
      have BCG := Box.new 32 w3 #[.int .i64 (q : Int), .int .i64 vg, .slice a3 n3 c3]
      have t0 := BCG.c 0 rfl
      have t1 := BCG.c 1 rfl
      have t2 := BCG.c 2 rfl
      have HBXA := Lib.hid (hbx.below hal)
      have HOA := Lib.hid ((hol.below hal).full)
      have HZA : Hid (b + 1 ≤ (w3.alloc (.cells #[.int .i64 (q : Int), .int .i64 vg, .slice a3 n3 c3] 32)).heap.size) := Lib.hid (Nat.le_trans hsz hal.size)
      have HBA := Lib.hid (HBB.out.trans (hal.mono (Nat.le_trans (Nat.le_succ _) hsz)))
      have HROW := Lib.hid (hrw.below hal)
      clear hrw hal hal0 hal3 hb3 hbx hol hbw hbb BCG HBC hfk
      by_cases hrel2 : arO fs k = rel
      · have hrq := HFQ.out k hlt hrel2
        have hrb : (arO fs k == rel) = true := beq_iff_eq.2 hrel2
        have HREL := Lib.hid hrel2
        clear hrel2
        obtain rfl : q = n4 := by obtain ⟨_, _, hv, _⟩ := HROW.out; simp only [Value.slice.injEq] at hv; omega
        by_cases hnf : RplFits v m fs rel gs (k + 1)
        · have HFT := Lib.hid hnf
          clear hnf
          have hsy := say_ok (w3.alloc (.cells #[.int .i64 (q : Int), .int .i64 vg, .slice a3 n3 c3] 32)) b (b + 1) (rplY v m fs rel k) m vg fr a n c (rplL v m fs rel gs k) gs (.slice a3 n3 c3) (.slice a4 q c4) (rowO fs k) wb HBXA.out (Nat.lt_succ_self _) HZA.out HOA.out hwb HBLA.out HG.out HROW.out (by rw [hrq]; exact hq0) (by rw [hrq]; exact HVG.out) (by rw [hrq]; omega) (by have := HFT.out.1; rw [rplY_yes HREL.out] at this; omega) (by have := HFT.out.2; rw [rplL_yes HREL.out, List.length_append, movedL_len] at this; omega) HGL.out HGR.out
          rw [hrq] at hsy
          have HSY := Lib.hid hsy
          clear hsy hrq
          go_wp2_with (go_at_call 36; refine HSY.out.mono ?_; rintro e w7 ⟨rfl, a7, n7, c7, hx7, ho7, hb7⟩; have HX7 := Lib.hid hx7; have HO7 := Lib.hid ho7; have HB7 := Lib.hid hb7; clear hx7 ho7 hb7)
          have HZ7 := Lib.hid (show b + 1 ≤ w7.heap.size from HX7.out.lt)
          have HBE := Lib.hid (HBA.out.trans HB7.out)
          have HWE := Lib.hid (HBLA.out.trans (HB7.out.mono hwb))
          go_roundw
          case rel =>
            refine ⟨k + 1, a7, n7, c7, by omega, HFT.out, by go_num, ?_, ?_, HZ7.out, HWE.out, HBE.out⟩
            · rw [rplY_yes HREL.out]; exact HX7.out
            · rw [rplL_yes HREL.out]; exact HO7.out
          case measure => simp [intOf]; omega
        · skip
          have hsy := say_told (w3.alloc (.cells #[.int .i64 (q : Int), .int .i64 vg, .slice a3 n3 c3] 32)) b (b + 1) (rplY v m fs rel k) m vg fr a n c (rplL v m fs rel gs k) gs (.slice a3 n3 c3) (.slice a4 q c4) (rowO fs k) wb HBXA.out (Nat.lt_succ_self _) HZA.out HOA.out hwb HBLA.out HG.out HROW.out (by rw [hrq]; exact hq0) (by rw [hrq]; exact HVG.out) (by rw [hrq]; omega) (by omega) (by have := HFK.out.1; omega) HFK.out.2 (Classical.byContradiction fun h => hnf ⟨by rw [rplY_yes HREL.out]; omega, by rw [rplL_yes HREL.out, List.length_append, movedL_len]; omega⟩) HGL.out HGR.out
          rw [hrq] at hsy
          have HSY := Lib.hid hsy
          clear hsy hrq
          go_wp2_with (go_at_call 36; refine HSY.out.mono ?_; rintro e w7 ⟨rfl, hb7⟩; have HB7 := Lib.hid hb7; clear hb7)
          exact ⟨rfl, rfl, HBA.out.trans HB7.out⟩
      · have hrb : (arO fs k == rel) = false := beq_eq_false_iff_ne.2 hrel2
        by_cases hnf : RplFits v m fs rel gs (k + 1)
        · have HFT := Lib.hid hnf
          clear hnf
          go_wp2
          refine wp_region_noPanic ?_
          refine wp_region_late (S := (fun w' => w'.cell? ⟨wr.heap.size, 0, none⟩ = some (.int .i64 (arO fs k)) ∧ w'.cell? ⟨wr.heap.size, 1, none⟩ = some (.slice a4 n4 c4) ∧ w'.cell? ⟨pf, 1, none⟩ = some (.int .i64 (v : Int)) ∧ Below (w3.alloc (.cells #[.int .i64 (q : Int), .int .i64 vg, .slice a3 n3 c3] 32)).heap.size (w3.alloc (.cells #[.int .i64 (q : Int), .int .i64 vg, .slice a3 n3 c3] 32)) w')) [6] (by kernel_rfl) ?_ (fun hHeld => ?_)
          · exact ⟨y0, y1, yv, (QW.refl _).drew.below _⟩
          refine wpAnyL_free (i := 0) (v := ?_) (some 28) rfl rfl (by kernel_rfl) (by kernel_rfl) (by kernel_rfl) (by decide) (fun _ _ _ h => h) (Or.inl ⟨by rfl, ?_⟩) (fun h0 => by assumption) ?_
          rotate_left
          · intro wS
            go_simp
            try with_reducible rfl
          try simp only [Act.put, List.setIfInBounds_toArray, List.set_cons_zero, List.set_cons_succ]
          refine wpAnyL_take (i := 1) (v := ?_) (some 29) rfl rfl (by kernel_rfl) (by kernel_rfl) (by kernel_rfl) (by kernel_rfl) (by kernel_rfl) (fun _ _ _ h => h) (Or.inl ⟨by rfl, ?_⟩) (by assumption) ?_
          rotate_left
          · intro wS hSw
            try dsimp only at hSw
            go_simp
            try with_reducible rfl
          try simp only [Act.put, List.setIfInBounds_toArray, List.set_cons_zero, List.set_cons_succ]
          refine wpAnyL_free (i := 2) (v := ?_) (some 30) rfl rfl (by kernel_rfl) (by kernel_rfl) (by kernel_rfl) (by decide) (fun _ _ _ h => h) (Or.inl ⟨by rfl, ?_⟩) (fun h0 => by assumption) ?_
          rotate_left
          · intro wS
            go_simp
            try with_reducible rfl
          try simp only [Act.put, List.setIfInBounds_toArray, List.set_cons_zero, List.set_cons_succ]
          refine wpAnyL_take (i := 3) (v := ?_) (some 31) rfl rfl (by kernel_rfl) (by kernel_rfl) (by kernel_rfl) (by kernel_rfl) (by kernel_rfl) (fun _ _ _ h => h) (Or.inl ⟨by rfl, ?_⟩) (by assumption) ?_
          rotate_left
          · intro wS hSw
            try dsimp only at hSw
            go_simp
            try with_reducible rfl
          try simp only [Act.put, List.setIfInBounds_toArray, List.set_cons_zero, List.set_cons_succ]
          refine wpAnyL_ready (rs := [4]) (by kernel_rfl) (by simp) ?_
          refine AllReadyL.cons rfl (fun K hK => ?_) AllReadyL.nil
          go_simp; go_at_call 37; refine (numbersBelow v (by omega) _).mono ?_; rintro e w5 ⟨a5, c5, rfl, ho5, hb5⟩
          have HP5 := Lib.hid ho5.rowAt
          have HB5 := Lib.hid (hHeld.2.2.2.trans (hb5.mono hHeld.2.2.2.size))
          clear ho5
          refine hK.out _ _ ?_ (fun hHeld => ?_)
          · exact ⟨below_cell hb5 hHeld.1, below_cell hb5 hHeld.2.1, below_cell hb5 hHeld.2.2.1, hHeld.2.2.2.trans (hb5.mono hHeld.2.2.2.size)⟩
          clear hK K
          try simp only [Act.put, List.setIfInBounds_toArray, List.set_cons_zero, List.set_cons_succ]
          refine wpAnyL_ready (rs := [5]) (by kernel_rfl) (by simp) ?_
          refine AllReadyL.cons rfl (fun K hK => ?_) AllReadyL.nil
          go_simp; go_at_call 65; refine (renamed (arO fs k) a4 n4 c4 _ (rowO fs k) (cnts v) _ (HROW.out.below hHeld.2.2.2) HP5.out (HFL.out k hlt) (fun i hi => by rw [cnts_len]; exact HFR.out k hlt i hi)).mono ?_; rintro e w6 ⟨a6, n6, c6, rfl, ho6, hb6⟩
          have HO6 := Lib.hid (show OwnRow w6 (w3.alloc (.cells #[.int .i64 (q : Int), .int .i64 vg, .slice a3 n3 c3] 32)).heap.size (.slice a6 n6 c6) (rowO fs k) from by have := (ho6.row.mono (B' := (w3.alloc (.cells #[.int .i64 (q : Int), .int .i64 vg, .slice a3 n3 c3] 32)).heap.size) hHeld.2.2.2.size); rwa [mapped_cnts v _ (HFR.out k hlt)] at this)
          have HB6 := Lib.hid (hHeld.2.2.2.trans (hb6.mono hHeld.2.2.2.size))
          clear ho6
          refine hK.out _ _ ?_ (fun hHeld => ?_)
          · exact ⟨below_cell hb6 hHeld.1, below_cell hb6 hHeld.2.1, below_cell hb6 hHeld.2.2.1, hHeld.2.2.2.trans (hb6.mono hHeld.2.2.2.size)⟩
          clear hK K
          try simp only [Act.put, List.setIfInBounds_toArray, List.set_cons_zero, List.set_cons_succ]
          refine wpAnyL_ready (rs := [6]) (by kernel_rfl) (by simp) ?_
          refine AllReadyL.last rfl (by kernel_rfl) (fun K hK => ?_) AllReadyL.nil
          have had := addAtom_ok (w3.alloc (.cells #[.int .i64 (q : Int), .int .i64 vg, .slice a3 n3 c3] 32)) w6 b (b + 1) fr ((rplY v m fs rel k : Nat) : Int) (arO fs k) a a6 n c n6 c6 (rplL v m fs rel gs k) (rowO fs k) (HBXA.out.below HB6.out) (Nat.lt_succ_self _) HZA.out HOA.out HB6.out HO6.out (by have := HFT.out.2; rw [rplL_no hrel2, List.length_append] at this; simp at this; omega)
          go_simp; go_at_call 64; refine had.mono ?_; rintro e w7 ⟨rfl, a7, n7, c7, hx7, ho7, hn7, ht7⟩
          have HX7 := Lib.hid hx7
          have HO7 := Lib.hid ho7
          have hlo : ∀ g, (Value.slice a n c).ownBlock = some g → b + 1 ≤ g := fun g hg => by
            obtain ⟨V, hV⟩ := HOA.out
            obtain ⟨zs, hz, _⟩ := hV.outer
            exact (World.ownsRow.lt hz g hg).1
          have HB7 := Lib.hid (hn7.below (B := b) (by have := HB6.out.size; have := HZA.out; omega) (fun g hg => by
            rcases hg with e | e
            · omega
            · have := hlo g e.symm; omega))
          have HS7 := Lib.hid hn7.size
          clear had hx7 ho7 hn7 ht7 hlo
          refine hK.out _ _ ?_
          clear hK K
          try simp only [Act.put, List.setIfInBounds_toArray, List.set_cons_zero, List.set_cons_succ]
          refine wpAnyL_done (by kernel_rfl) ?_ _
          refine NoPanic.normal ?_
          have HZ7 := Lib.hid (show b + 1 ≤ w7.heap.size from Nat.le_trans (Nat.le_trans HZA.out HB6.out.size) HS7.out)
          have HBE := Lib.hid (HBA.out.trans ((HB6.out.mono (Nat.le_trans (Nat.le_succ _) HZA.out)).trans HB7.out))
          have HWE := Lib.hid (HBLA.out.trans (((HB6.out.mono (Nat.le_trans (Nat.le_succ _) HZA.out)).trans HB7.out).mono hwb))
          go_wp2
          go_roundw
          case rel =>
            refine ⟨k + 1, a7, n7, c7, by omega, HFT.out, by go_num, ?_, ?_, HZ7.out, HWE.out, HBE.out⟩
            · rw [rplY_no hrel2]; exact HX7.out
            · rw [rplL_no hrel2]; exact HO7.out
          case measure => simp [intOf]; omega
        · have HN16 : Hid (n = 16) := Lib.hid (by
            have h1 := HFK.out
            have h16 : (rplL v m fs rel gs k).length = 16 := Classical.byContradiction fun h => hnf ⟨by rw [rplY_no hrel2]; exact h1.1, by rw [rplL_no hrel2, List.length_append]; have := h1.2; simp; omega⟩
            obtain ⟨V, hV⟩ := HOA.out
            obtain ⟨zs, hz, _⟩ := hV.outer
            rcases ownsRow2_parts hz with ⟨e1, e2, _⟩ | ⟨g, cc, e1, _⟩ <;> simp only [Value.slice.injEq] at e1 <;> omega)
          clear hnf
          go_wp2
          refine wp_region_late (S := (fun w' => w'.cell? ⟨wr.heap.size, 0, none⟩ = some (.int .i64 (arO fs k)) ∧ w'.cell? ⟨wr.heap.size, 1, none⟩ = some (.slice a4 n4 c4) ∧ w'.cell? ⟨pf, 1, none⟩ = some (.int .i64 (v : Int)) ∧ Below (w3.alloc (.cells #[.int .i64 (q : Int), .int .i64 vg, .slice a3 n3 c3] 32)).heap.size (w3.alloc (.cells #[.int .i64 (q : Int), .int .i64 vg, .slice a3 n3 c3] 32)) w')) [6] (by kernel_rfl) ?_ (fun hHeld => ?_)
          · exact ⟨y0, y1, yv, (QW.refl _).drew.below _⟩
          refine wpAnyL_free (i := 0) (v := ?_) (some 28) rfl rfl (by kernel_rfl) (by kernel_rfl) (by kernel_rfl) (by decide) (fun _ _ _ h => h) (Or.inl ⟨by rfl, ?_⟩) (fun h0 => by assumption) ?_
          rotate_left
          · intro wS
            go_simp
            try with_reducible rfl
          try simp only [Act.put, List.setIfInBounds_toArray, List.set_cons_zero, List.set_cons_succ]
          refine wpAnyL_take (i := 1) (v := ?_) (some 29) rfl rfl (by kernel_rfl) (by kernel_rfl) (by kernel_rfl) (by kernel_rfl) (by kernel_rfl) (fun _ _ _ h => h) (Or.inl ⟨by rfl, ?_⟩) (by assumption) ?_
          rotate_left
          · intro wS hSw
            try dsimp only at hSw
            go_simp
            try with_reducible rfl
          try simp only [Act.put, List.setIfInBounds_toArray, List.set_cons_zero, List.set_cons_succ]
          refine wpAnyL_free (i := 2) (v := ?_) (some 30) rfl rfl (by kernel_rfl) (by kernel_rfl) (by kernel_rfl) (by decide) (fun _ _ _ h => h) (Or.inl ⟨by rfl, ?_⟩) (fun h0 => by assumption) ?_
          rotate_left
          · intro wS
            go_simp
            try with_reducible rfl
          try simp only [Act.put, List.setIfInBounds_toArray, List.set_cons_zero, List.set_cons_succ]
          refine wpAnyL_take (i := 3) (v := ?_) (some 31) rfl rfl (by kernel_rfl) (by kernel_rfl) (by kernel_rfl) (by kernel_rfl) (by kernel_rfl) (fun _ _ _ h => h) (Or.inl ⟨by rfl, ?_⟩) (by assumption) ?_
          rotate_left
          · intro wS hSw
            try dsimp only at hSw
            go_simp
            try with_reducible rfl
          try simp only [Act.put, List.setIfInBounds_toArray, List.set_cons_zero, List.set_cons_succ]
          refine wpAnyL_ready (rs := [4]) (by kernel_rfl) (by simp) ?_
          refine AllReadyL.cons rfl (fun K hK => ?_) AllReadyL.nil
          go_simp; go_at_call 37; refine (numbersBelow v (by omega) _).mono ?_; rintro e w5 ⟨a5, c5, rfl, ho5, hb5⟩
          have HP5 := Lib.hid ho5.rowAt
          have HB5 := Lib.hid (hHeld.2.2.2.trans (hb5.mono hHeld.2.2.2.size))
          clear ho5
          refine hK.out _ _ ?_ (fun hHeld => ?_)
          · exact ⟨below_cell hb5 hHeld.1, below_cell hb5 hHeld.2.1, below_cell hb5 hHeld.2.2.1, hHeld.2.2.2.trans (hb5.mono hHeld.2.2.2.size)⟩
          clear hK K
          try simp only [Act.put, List.setIfInBounds_toArray, List.set_cons_zero, List.set_cons_succ]
          refine wpAnyL_ready (rs := [5]) (by kernel_rfl) (by simp) ?_
          refine AllReadyL.cons rfl (fun K hK => ?_) AllReadyL.nil
          go_simp; go_at_call 65; refine (renamed (arO fs k) a4 n4 c4 _ (rowO fs k) (cnts v) _ (HROW.out.below hHeld.2.2.2) HP5.out (HFL.out k hlt) (fun i hi => by rw [cnts_len]; exact HFR.out k hlt i hi)).mono ?_; rintro e w6 ⟨a6, n6, c6, rfl, ho6, hb6⟩
          have HO6 := Lib.hid (show OwnRow w6 (w3.alloc (.cells #[.int .i64 (q : Int), .int .i64 vg, .slice a3 n3 c3] 32)).heap.size (.slice a6 n6 c6) (rowO fs k) from by have := (ho6.row.mono (B' := (w3.alloc (.cells #[.int .i64 (q : Int), .int .i64 vg, .slice a3 n3 c3] 32)).heap.size) hHeld.2.2.2.size); rwa [mapped_cnts v _ (HFR.out k hlt)] at this)
          have HB6 := Lib.hid (hHeld.2.2.2.trans (hb6.mono hHeld.2.2.2.size))
          clear ho6
          refine hK.out _ _ ?_ (fun hHeld => ?_)
          · exact ⟨below_cell hb6 hHeld.1, below_cell hb6 hHeld.2.1, below_cell hb6 hHeld.2.2.1, hHeld.2.2.2.trans (hb6.mono hHeld.2.2.2.size)⟩
          clear hK K
          try simp only [Act.put, List.setIfInBounds_toArray, List.set_cons_zero, List.set_cons_succ]
          refine wpAnyL_ready (rs := [6]) (by kernel_rfl) (by simp) ?_
          refine AllReadyL.last rfl (by kernel_rfl) (fun K hK => ?_) AllReadyL.nil
          go_simp; go_at_call 64; refine (addAtom_full w6 b a c _ (by have h := (HBXA.out.below HB6.out).c 2 rfl; rw [HN16.out] at h; exact h) (by have h := (HBXA.out.below HB6.out).c 4 rfl; exact h)).mono ?_; rintro e w7 ⟨rfl, rfl⟩
          exact ⟨rfl, rfl, (HBA.out.trans (HB6.out.mono (Nat.le_trans (Nat.le_succ _) HZA.out))).alloc (by have := HB6.out.size; have := HZA.out; omega) _ |>.drew⟩
    · obtain rfl : k = fs.length := by omega
      exact absurd HFK.out HFIT.out

theorem replMake_ok (w : World) (pf pc pr pg v m q : Nat) (fr rel vg : Int) (a2 : Option Addr) (n2 c2 : Nat) (a3 : Option Addr) (n3 c3 : Nat) (fs gs : List (Int × List Int))
    (hc0 : w.cell? ⟨pc, 0, none⟩ = some (.func (.func 54) #[] #[.pointer (some ⟨pg, 0, none⟩), .pointer (some ⟨pr, 0, none⟩)])) (hf0 : w.cell? ⟨pf, 1, none⟩ = some (.int .i64 (v : Int))) (hf2 : w.cell? ⟨pf, 2, none⟩ = some (.slice a2 n2 c2)) (hr0 : w.cell? ⟨pr, 0, none⟩ = some (.int .i64 rel))
    (hg0 : w.cell? ⟨pg, 0, none⟩ = some (.int .i64 (q : Int))) (hg1 : w.cell? ⟨pg, 1, none⟩ = some (.int .i64 vg)) (hg2 : w.cell? ⟨pg, 2, none⟩ = some (.slice a3 n3 c3))
    (hf : OpsAt w (.slice a2 n2 c2) fs) (hg : OpsAt w (.slice a3 n3 c3) gs) (hq0 : 0 < q) (hq4 : q ≤ 4) (hvg : vg = q + m) (hm8 : m ≤ 8) (hv8 : v ≤ 8)
    (hfl : ∀ k, k < fs.length → (rowO fs k).length ≤ 1000) (hfr : ∀ k, k < fs.length → ∀ i, i < (rowO fs k).length → 0 ≤ intN (rowO fs k) i ∧ intN (rowO fs k) i < v)
    (hfq : ∀ k, k < fs.length → arO fs k = rel → (rowO fs k).length = q)
    (hgl : ∀ k, k < gs.length → (rowO gs k).length ≤ 1000) (hgr : ∀ k, k < gs.length → ∀ i, i < (rowO gs k).length → 0 ≤ intN (rowO gs k) i ∧ intN (rowO gs k) i < vg) (hfit : RplFits v m fs rel gs fs.length) :
    Calls Try.prog 34 #[.int .i64 fr, .int .i64 (v : Int), .func (.func 76) #[] #[.pointer (some ⟨pf, 0, none⟩), .pointer (some ⟨pc, 0, none⟩)]] w (MadeF w fr ((rplY v m fs rel fs.length : Nat) : Int) (rplL v m fs rel gs fs.length) 0) := by
  have hG : ∀ (args : Array Value) (w : World), (callFunc 76 args).run Try.prog w = .ok (.enter 76 args) w := fun args w => by simp [go_sem]
  refine (makeFormula_ok (R := fun x y a n c w2 => x = fr ∧ y = ((rplY v m fs rel fs.length : Nat) : Int) ∧ OwnOps 83 w2 (w.heap.size + 8) w2.heap.size (.slice a n c) (rplL v m fs rel gs fs.length)) _ _ w fr v hG fun wM b1 b2 b3 => ?_).mono ?_
  · refine (replBody_ok wM w (w.heap.size + 7) pf pc pr pg v m q fr rel vg a2 n2 c2 a3 n3 c3 fs gs b3 (by omega) b1 hc0 hf0 hf2 hr0 hg0 hg1 hg2 hf hg hq0 hq4 hvg hm8 hv8 hfl hfr hfq hgl hgr hfit).mono ?_
    rintro e w' ⟨rfl, a', n', c', g1, g2, g3⟩
    exact ⟨rfl, _, _, _, _, _, g1, g3, rfl, rfl, g2⟩
  · rintro e w' ⟨x, y, a, n, c, w2, ⟨rfl, rfl, g1⟩, g2, rfl, g3⟩
    refine ⟨a, n, c, rfl, ?_, g2.trans (g3.below g2.size (fun k hk => hk.1))⟩
    exact ((g1.same g3.size (fun g h4 _ => g3.block g (by omega) (fun h5 => by omega))).mono (by omega)).full

theorem replMake_told (w : World) (pf pc pr pg v m q : Nat) (fr rel vg : Int) (a2 : Option Addr) (n2 c2 : Nat) (a3 : Option Addr) (n3 c3 : Nat) (fs gs : List (Int × List Int))
    (hc0 : w.cell? ⟨pc, 0, none⟩ = some (.func (.func 54) #[] #[.pointer (some ⟨pg, 0, none⟩), .pointer (some ⟨pr, 0, none⟩)])) (hf0 : w.cell? ⟨pf, 1, none⟩ = some (.int .i64 (v : Int))) (hf2 : w.cell? ⟨pf, 2, none⟩ = some (.slice a2 n2 c2)) (hr0 : w.cell? ⟨pr, 0, none⟩ = some (.int .i64 rel))
    (hg0 : w.cell? ⟨pg, 0, none⟩ = some (.int .i64 (q : Int))) (hg1 : w.cell? ⟨pg, 1, none⟩ = some (.int .i64 vg)) (hg2 : w.cell? ⟨pg, 2, none⟩ = some (.slice a3 n3 c3))
    (hf : OpsAt w (.slice a2 n2 c2) fs) (hg : OpsAt w (.slice a3 n3 c3) gs) (hq0 : 0 < q) (hq4 : q ≤ 4) (hvg : vg = q + m) (hm8 : m ≤ 8) (hv8 : v ≤ 8)
    (hfl : ∀ k, k < fs.length → (rowO fs k).length ≤ 1000) (hfr : ∀ k, k < fs.length → ∀ i, i < (rowO fs k).length → 0 ≤ intN (rowO fs k) i ∧ intN (rowO fs k) i < v)
    (hfq : ∀ k, k < fs.length → arO fs k = rel → (rowO fs k).length = q)
    (hgl : ∀ k, k < gs.length → (rowO gs k).length ≤ 1000) (hgr : ∀ k, k < gs.length → ∀ i, i < (rowO gs k).length → 0 ≤ intN (rowO gs k) i ∧ intN (rowO gs k) i < vg) (hfit : ¬ RplFits v m fs rel gs fs.length) :
    Calls Try.prog 34 #[.int .i64 fr, .int .i64 (v : Int), .func (.func 76) #[] #[.pointer (some ⟨pf, 0, none⟩), .pointer (some ⟨pc, 0, none⟩)]] w (MadeF w 0 0 [] 3) := by
  have hG : ∀ (args : Array Value) (w : World), (callFunc 76 args).run Try.prog w = .ok (.enter 76 args) w := fun args w => by simp [go_sem]
  refine (makeFormula_told _ _ w fr v hG fun wM b1 b2 b3 => ?_).mono ?_
  · exact replBody_told wM w (w.heap.size + 7) pf pc pr pg v m q fr rel vg a2 n2 c2 a3 n3 c3 fs gs b3 (by omega) b1 hc0 hf0 hf2 hr0 hg0 hg1 hg2 hf hg hq0 hq4 hvg hm8 hv8 hfl hfr hfq hgl hgr hfit
  · rintro e w' ⟨rfl, g2⟩
    exact ⟨none, 0, 0, rfl, OwnOps.nil _ _ _ _ (Nat.le_refl _), g2⟩

theorem Kept.box1 {w w1 : World} {C : List (Addr × Value)} {R : List (World → Prop)} (h : Kept w C R w1) (B : Nat) (hB : B = w1.heap.size) (x : Value) (t : TypeId) : Kept w ((⟨B, 0, none⟩, x) :: C) R (w1.alloc (.cells #[x] t)) :=
  (h.below ((Below.refl _ _).alloc (Nat.le_refl _) _)).cell (by subst hB; simp [World.cell?_alloc_new])

set_option linter.unusedSimpArgs false in
set_option maxHeartbeats 2000000 in
set_option maxRecDepth 100000 in
theorem replAtoms_ok (w : World) (pr pg v m q : Nat) (fr rel vg : Int) (a2 : Option Addr) (n2 c2 : Nat) (a3 : Option Addr) (n3 c3 : Nat) (fs gs : List (Int × List Int))
    (hr0 : w.cell? ⟨pr, 0, none⟩ = some (.int .i64 rel))
    (hg0 : w.cell? ⟨pg, 0, none⟩ = some (.int .i64 (q : Int))) (hg1 : w.cell? ⟨pg, 1, none⟩ = some (.int .i64 vg)) (hg2 : w.cell? ⟨pg, 2, none⟩ = some (.slice a3 n3 c3))
    (hf : OpsAt w (.slice a2 n2 c2) fs) (hg : OpsAt w (.slice a3 n3 c3) gs) (hq0 : 0 < q) (hq4 : q ≤ 4) (hvg : vg = q + m) (hm8 : m ≤ 8) (hv8 : v ≤ 8)
    (hfl : ∀ k, k < fs.length → (rowO fs k).length ≤ 1000) (hfr : ∀ k, k < fs.length → ∀ i, i < (rowO fs k).length → 0 ≤ intN (rowO fs k) i ∧ intN (rowO fs k) i < v)
    (hfq : ∀ k, k < fs.length → arO fs k = rel → (rowO fs k).length = q)
    (hgl : ∀ k, k < gs.length → (rowO gs k).length ≤ 1000) (hgr : ∀ k, k < gs.length → ∀ i, i < (rowO gs k).length → 0 ≤ intN (rowO gs k) i ∧ intN (rowO gs k) i < vg) (hfit : RplFits v m fs rel gs fs.length) :
    Calls Try.prog 53 #[.agg #[.int .i64 fr, .int .i64 (v : Int), .slice a2 n2 c2], (.func (.func 54) #[] #[.pointer (some ⟨pg, 0, none⟩), .pointer (some ⟨pr, 0, none⟩)])] w (MadeF w fr ((rplY v m fs rel fs.length : Nat) : Int) (rplL v m fs rel gs fs.length) 0) := by
  have HR0 : Hid (Box 32 (((w.alloc (.cells #[.int .i64 fr, .int .i64 (v : Int), .slice a2 n2 c2] 32)).alloc (.cells #[(.func (.func 54) #[] #[.pointer (some ⟨pg, 0, none⟩), .pointer (some ⟨pr, 0, none⟩)])] 86)).alloc (.cells #[.int .i64 0, .int .i64 0, .slice none 0 0] 32)) (w.heap.size + 2) #[.int .i64 0, .int .i64 0, .slice none 0 0]) := Lib.hid (by
    have h := Box.new 32 ((w.alloc (.cells #[.int .i64 fr, .int .i64 (v : Int), .slice a2 n2 c2] 32)).alloc (.cells #[(.func (.func 54) #[] #[.pointer (some ⟨pg, 0, none⟩), .pointer (some ⟨pr, 0, none⟩)])] 86)) #[.int .i64 0, .int .i64 0, .slice none 0 0]
    simp only [World.size_alloc] at h
    exact h)
  have K0 := Lib.hid ((((((Kept.start w).read (lives_ops _ _) hf).read (lives_ops _ _) hg).box3 w.heap.size rfl (.int .i64 fr) (.int .i64 (v : Int)) (.slice a2 n2 c2) 32).box1 (w.heap.size + 1) (by simp) (.func (.func 54) #[] #[.pointer (some ⟨pg, 0, none⟩), .pointer (some ⟨pr, 0, none⟩)]) 86).below ((Below.refl _ _).alloc (Nat.le_refl _) (.cells #[.int .i64 0, .int .i64 0, .slice none 0 0] 32)))
  have HS0 : Hid ((((w.alloc (.cells #[.int .i64 fr, .int .i64 (v : Int), .slice a2 n2 c2] 32)).alloc (.cells #[(.func (.func 54) #[] #[.pointer (some ⟨pg, 0, none⟩), .pointer (some ⟨pr, 0, none⟩)])] 86)).alloc (.cells #[.int .i64 0, .int .i64 0, .slice none 0 0] 32)).heap.size = w.heap.size + 3) := Lib.hid (by simp)
  have HRC := Lib.hid hr0
  have HG0 := Lib.hid hg0
  have HG1 := Lib.hid hg1
  have HG2 := Lib.hid hg2
  have HVG := Lib.hid hvg
  have HFL := Lib.hid hfl
  have HFR := Lib.hid hfr
  have HFQ := Lib.hid hfq
  have HGL := Lib.hid hgl
  have HGR := Lib.hid hgr
  have HFIT := Lib.hid hfit
  clear hf hg hr0 hg0 hg1 hg2 hvg hfl hfr hfq hgl hgr hfit
  have hmf : ∀ (fn : Fn) (first cap : Array Value) (w : World), (Instr.makeFunc fn first cap).run Try.prog w = .ok (.func fn first cap) w := fun _ _ _ _ => rfl
  have cc0 := K0.out.c 0 rfl
  have cc1 := K0.out.c 1 rfl
  have cc2 := K0.out.c 2 rfl
  have cc3 := K0.out.c 3 rfl
  go_enter Try.func53, Try.ntmps53
  go_wp2_with fail
  refine (replMake_ok _ w.heap.size (w.heap.size + 1) pr pg v m q fr rel vg a2 n2 c2 a3 n3 c3 fs gs (K0.out.c 0 rfl) (K0.out.c 2 rfl) (K0.out.c 3 rfl) (below_cell K0.out.bel HRC.out) (below_cell K0.out.bel HG0.out) (below_cell K0.out.bel HG1.out) (below_cell K0.out.bel HG2.out) (K0.out.r 1 rfl :) (K0.out.r 0 rfl :) hq0 hq4 HVG.out hm8 hv8 HFL.out HFR.out HFQ.out HGL.out HGR.out HFIT.out).mono ?_
  rintro e w5 ⟨a5, n5, c5, rfl, ho5, hb5⟩
  have HO5 := Lib.hid ho5
  have HB5 := Lib.hid hb5
  have HR5 := Lib.hid (HR0.out.below hb5)
  have e0 := HR5.out.c 0 rfl; have f0 := HR5.out.free 0; have e1 := HR5.out.c 1 rfl; have f1 := HR5.out.free 1; have e2 := HR5.out.c 2 rfl; have f2 := HR5.out.free 2
  clear ho5 hb5
  go_wp2
  have hs := HS0.out
  refine bodyPost_ret (v := .tuple #[.agg #[.int .i64 fr, .int .i64 ((rplY v m fs rel fs.length : Nat) : Int), .slice a5 n5 c5], .int .i64 0]) (by simp [results, Try.results53, go_sem, e0, e1, e2]) rfl ⟨a5, n5, c5, rfl, ?_, ?_⟩
  · exact ((((HO5.out.stored (by show w.heap.size + 2 < _; rw [hs]; omega) _).stored (by show w.heap.size + 2 < _; rw [hs]; omega) _).stored (by show w.heap.size + 2 < _; rw [hs]; omega) _).mono (by rw [hs]; omega)).full
  · exact ((((K0.out.bel.trans (HB5.out.mono K0.out.bel.size)).setCell (by show w.heap.size ≤ w.heap.size + 2; omega) _).setCell (by show w.heap.size ≤ w.heap.size + 2; omega) _).setCell (by show w.heap.size ≤ w.heap.size + 2; omega) _)

set_option linter.unusedSimpArgs false in
set_option maxHeartbeats 2000000 in
set_option maxRecDepth 100000 in
theorem replAtoms_told (w : World) (pr pg v m q : Nat) (fr rel vg : Int) (a2 : Option Addr) (n2 c2 : Nat) (a3 : Option Addr) (n3 c3 : Nat) (fs gs : List (Int × List Int))
    (hr0 : w.cell? ⟨pr, 0, none⟩ = some (.int .i64 rel))
    (hg0 : w.cell? ⟨pg, 0, none⟩ = some (.int .i64 (q : Int))) (hg1 : w.cell? ⟨pg, 1, none⟩ = some (.int .i64 vg)) (hg2 : w.cell? ⟨pg, 2, none⟩ = some (.slice a3 n3 c3))
    (hf : OpsAt w (.slice a2 n2 c2) fs) (hg : OpsAt w (.slice a3 n3 c3) gs) (hq0 : 0 < q) (hq4 : q ≤ 4) (hvg : vg = q + m) (hm8 : m ≤ 8) (hv8 : v ≤ 8)
    (hfl : ∀ k, k < fs.length → (rowO fs k).length ≤ 1000) (hfr : ∀ k, k < fs.length → ∀ i, i < (rowO fs k).length → 0 ≤ intN (rowO fs k) i ∧ intN (rowO fs k) i < v)
    (hfq : ∀ k, k < fs.length → arO fs k = rel → (rowO fs k).length = q)
    (hgl : ∀ k, k < gs.length → (rowO gs k).length ≤ 1000) (hgr : ∀ k, k < gs.length → ∀ i, i < (rowO gs k).length → 0 ≤ intN (rowO gs k) i ∧ intN (rowO gs k) i < vg) (hfit : ¬ RplFits v m fs rel gs fs.length) :
    Calls Try.prog 53 #[.agg #[.int .i64 fr, .int .i64 (v : Int), .slice a2 n2 c2], (.func (.func 54) #[] #[.pointer (some ⟨pg, 0, none⟩), .pointer (some ⟨pr, 0, none⟩)])] w (MadeF w 0 0 [] 3) := by
  have HR0 : Hid (Box 32 (((w.alloc (.cells #[.int .i64 fr, .int .i64 (v : Int), .slice a2 n2 c2] 32)).alloc (.cells #[(.func (.func 54) #[] #[.pointer (some ⟨pg, 0, none⟩), .pointer (some ⟨pr, 0, none⟩)])] 86)).alloc (.cells #[.int .i64 0, .int .i64 0, .slice none 0 0] 32)) (w.heap.size + 2) #[.int .i64 0, .int .i64 0, .slice none 0 0]) := Lib.hid (by
    have h := Box.new 32 ((w.alloc (.cells #[.int .i64 fr, .int .i64 (v : Int), .slice a2 n2 c2] 32)).alloc (.cells #[(.func (.func 54) #[] #[.pointer (some ⟨pg, 0, none⟩), .pointer (some ⟨pr, 0, none⟩)])] 86)) #[.int .i64 0, .int .i64 0, .slice none 0 0]
    simp only [World.size_alloc] at h
    exact h)
  have K0 := Lib.hid ((((((Kept.start w).read (lives_ops _ _) hf).read (lives_ops _ _) hg).box3 w.heap.size rfl (.int .i64 fr) (.int .i64 (v : Int)) (.slice a2 n2 c2) 32).box1 (w.heap.size + 1) (by simp) (.func (.func 54) #[] #[.pointer (some ⟨pg, 0, none⟩), .pointer (some ⟨pr, 0, none⟩)]) 86).below ((Below.refl _ _).alloc (Nat.le_refl _) (.cells #[.int .i64 0, .int .i64 0, .slice none 0 0] 32)))
  have HS0 : Hid ((((w.alloc (.cells #[.int .i64 fr, .int .i64 (v : Int), .slice a2 n2 c2] 32)).alloc (.cells #[(.func (.func 54) #[] #[.pointer (some ⟨pg, 0, none⟩), .pointer (some ⟨pr, 0, none⟩)])] 86)).alloc (.cells #[.int .i64 0, .int .i64 0, .slice none 0 0] 32)).heap.size = w.heap.size + 3) := Lib.hid (by simp)
  have HRC := Lib.hid hr0
  have HG0 := Lib.hid hg0
  have HG1 := Lib.hid hg1
  have HG2 := Lib.hid hg2
  have HVG := Lib.hid hvg
  have HFL := Lib.hid hfl
  have HFR := Lib.hid hfr
  have HFQ := Lib.hid hfq
  have HGL := Lib.hid hgl
  have HGR := Lib.hid hgr
  have HFIT := Lib.hid hfit
  clear hf hg hr0 hg0 hg1 hg2 hvg hfl hfr hfq hgl hgr hfit
  have hmf : ∀ (fn : Fn) (first cap : Array Value) (w : World), (Instr.makeFunc fn first cap).run Try.prog w = .ok (.func fn first cap) w := fun _ _ _ _ => rfl
  have cc0 := K0.out.c 0 rfl
  have cc1 := K0.out.c 1 rfl
  have cc2 := K0.out.c 2 rfl
  have cc3 := K0.out.c 3 rfl
  go_enter Try.func53, Try.ntmps53
  go_wp2_with fail
  refine (replMake_told _ w.heap.size (w.heap.size + 1) pr pg v m q fr rel vg a2 n2 c2 a3 n3 c3 fs gs (K0.out.c 0 rfl) (K0.out.c 2 rfl) (K0.out.c 3 rfl) (below_cell K0.out.bel HRC.out) (below_cell K0.out.bel HG0.out) (below_cell K0.out.bel HG1.out) (below_cell K0.out.bel HG2.out) (K0.out.r 1 rfl :) (K0.out.r 0 rfl :) hq0 hq4 HVG.out hm8 hv8 HFL.out HFR.out HFQ.out HGL.out HGR.out HFIT.out).mono ?_
  rintro e w5 ⟨a5, n5, c5, rfl, ho5, hb5⟩
  have HO5 := Lib.hid ho5
  have HB5 := Lib.hid hb5
  have HR5 := Lib.hid (HR0.out.below hb5)
  have e0 := HR5.out.c 0 rfl; have f0 := HR5.out.free 0; have e1 := HR5.out.c 1 rfl; have f1 := HR5.out.free 1; have e2 := HR5.out.c 2 rfl; have f2 := HR5.out.free 2
  clear ho5 hb5
  go_wp2
  have hs := HS0.out
  refine bodyPost_ret (v := .tuple #[.agg #[.int .i64 0, .int .i64 0, .slice a5 n5 c5], .int .i64 3]) (by simp [results, Try.results53, go_sem, e0, e1, e2]) rfl ⟨a5, n5, c5, rfl, ?_, ?_⟩
  · exact ((((HO5.out.stored (by show w.heap.size + 2 < _; rw [hs]; omega) _).stored (by show w.heap.size + 2 < _; rw [hs]; omega) _).stored (by show w.heap.size + 2 < _; rw [hs]; omega) _).mono (by rw [hs]; omega)).full
  · exact ((((K0.out.bel.trans (HB5.out.mono K0.out.bel.size)).setCell (by show w.heap.size ≤ w.heap.size + 2; omega) _).setCell (by show w.heap.size ≤ w.heap.size + 2; omega) _).setCell (by show w.heap.size ≤ w.heap.size + 2; omega) _)

/-- What ReplaceRel answers. -/
def ReplaceRelIs (sz : Int) (rs : List (Int × List (List Int))) (fr va : Int) (fs : List (Int × List Int)) (rel : Int) (fr2 vg : Int) (gs : List (Int × List Int)) (x y : Int) (zs : List (Int × List Int)) (cd : Int) : Prop :=
  (FormOk sz rs fr va fs ∧ FormOk sz rs fr2 vg gs ∧ (0 ≤ rel ∧ rel < rs.length) ∧ fr2 = arN rs rel.toNat ∧ ((RplFits va.toNat (vg - fr2).toNat fs rel gs fs.length ∧ fr = x ∧ y = ((rplY va.toNat (vg - fr2).toNat fs rel fs.length : Nat) : Int) ∧ zs = rplL va.toNat (vg - fr2).toNat fs rel gs fs.length ∧ cd = 0) ∨ (¬ RplFits va.toNat (vg - fr2).toNat fs rel gs fs.length ∧ x = 0 ∧ y = 0 ∧ zs = [] ∧ cd = 3)))
  ∨ (FormOk sz rs fr va fs ∧ FormOk sz rs fr2 vg gs ∧ (0 ≤ rel ∧ rel < rs.length) ∧ fr2 ≠ arN rs rel.toNat ∧ x = 0 ∧ y = 0 ∧ zs = [] ∧ cd = 4)
  ∨ (FormOk sz rs fr va fs ∧ FormOk sz rs fr2 vg gs ∧ ¬ (0 ≤ rel ∧ rel < rs.length) ∧ x = 0 ∧ y = 0 ∧ zs = [] ∧ cd = 2)
  ∨ (¬ (FormOk sz rs fr va fs ∧ FormOk sz rs fr2 vg gs) ∧ x = 0 ∧ y = 0 ∧ zs = [] ∧ cd = 1)
theorem ReplaceRelIs.exists (sz : Int) (rs : List (Int × List (List Int))) (fr va : Int) (fs : List (Int × List Int)) (rel : Int) (fr2 vg : Int) (gs : List (Int × List Int)) : ∃ x y zs cd, ReplaceRelIs sz rs fr va fs rel fr2 vg gs x y zs cd := by
  by_cases h : FormOk sz rs fr va fs ∧ FormOk sz rs fr2 vg gs
  · by_cases h2 : 0 ≤ rel ∧ rel < rs.length
    · by_cases h3 : fr2 = arN rs rel.toNat
      · by_cases h4 : RplFits va.toNat (vg - fr2).toNat fs rel gs fs.length
        · exact ⟨_, _, _, _, .inl ⟨h.1, h.2, h2, h3, .inl ⟨h4, rfl, rfl, rfl, rfl⟩⟩⟩
        · exact ⟨_, _, _, _, .inl ⟨h.1, h.2, h2, h3, .inr ⟨h4, rfl, rfl, rfl, rfl⟩⟩⟩
      · exact ⟨_, _, _, _, .inr (.inl ⟨h.1, h.2, h2, h3, rfl, rfl, rfl, rfl⟩)⟩
    · exact ⟨_, _, _, _, .inr (.inr (.inl ⟨h.1, h.2, h2, rfl, rfl, rfl, rfl⟩))⟩
  · exact ⟨_, _, _, _, .inr (.inr (.inr ⟨h, rfl, rfl, rfl, rfl⟩))⟩
theorem rowO_catR (rs qs : List (Int × List Int)) (i : Nat) : rowO (rs ++ qs) i = if i < rs.length then rowO rs i else rowO qs (i - rs.length) := by
  unfold rowO
  by_cases h : i < rs.length
  · simp [List.getD, List.getElem?_append_left h, h]
  · simp [List.getD, List.getElem?_append_right (Nat.le_of_not_lt h), h]
theorem partO_mulR (rs : List (Int × List Int)) (m n : Nat) (h : ∀ k, k < n → (rowO rs k).length ≤ m) : partO rs n ≤ n * m := by
  induction n with
  | zero => simp [partO]
  | succ n ih =>
    have h1 := ih fun k hk => h k (by omega)
    have h2 := h n (by omega)
    rw [partO_succ, Nat.succ_mul]
    omega
theorem ReplaceRelIs.small {sz : Int} {rs : List (Int × List (List Int))} {fr va : Int} {fs : List (Int × List Int)} {rel : Int} {fr2 vg : Int} {gs : List (Int × List Int)} {x y : Int} {zs : List (Int × List Int)} {cd : Int} (h : ReplaceRelIs sz rs fr va fs rel fr2 vg gs x y zs cd) : opsSize zs ≤ 1048576 := by
  rcases h with ⟨hf, hg, -, -, ⟨hfit, -, -, rfl, -⟩ | ⟨-, -, -, rfl, -⟩⟩ | ⟨-, -, -, -, -, -, rfl, -⟩ | ⟨-, -, -, -, -, rfl, -⟩ | ⟨-, -, -, rfl, -⟩
  · have key : ∀ v m n, n ≤ fs.length → ∀ k, k < (rplL v m fs rel gs n).length → (rowO (rplL v m fs rel gs n) k).length ≤ 4 := by
      intro v m n
      induction n with
      | zero => intro _ k hk; simp [rplL] at hk
      | succ n ih =>
        intro hn k hk
        by_cases hr : arO fs n = rel
        · rw [rplL_yes hr] at hk ⊢
          rw [rowO_catR]
          by_cases hkl : k < (rplL v m fs rel gs n).length
          · rw [if_pos hkl]; exact ih (by omega) k hkl
          · rw [if_neg hkl]
            rw [List.length_append, movedL_len] at hk
            have hkg : k - (rplL v m fs rel gs n).length < gs.length := by omega
            have e : ∀ r, rowO (movedL gs r) (k - (rplL v m fs rel gs n).length) = mapped r (rowO gs (k - (rplL v m fs rel gs n).length)) := fun r => by simp [rowO, movedL, List.getD, hkg]
            rw [e, mapped_len]
            have := (hg.text.2 _ hkg).2.1.2
            omega
        · rw [rplL_no hr] at hk ⊢
          rw [rowO_catR]
          by_cases hkl : k < (rplL v m fs rel gs n).length
          · rw [if_pos hkl]; exact ih (by omega) k hkl
          · rw [if_neg hkl]
            rw [List.length_append] at hk
            simp only [List.length_singleton] at hk
            have e : k - (rplL v m fs rel gs n).length = 0 := by omega
            rw [e]
            have := (hf.text.2 n (by omega)).2.1.2
            show (rowO fs n).length ≤ 4
            omega
    have h1 := partO_mulR (rplL va.toNat (vg - fr2).toNat fs rel gs fs.length) 4 (rplL va.toNat (vg - fr2).toNat fs rel gs fs.length).length fun k hk => key _ _ _ (Nat.le_refl _) k hk
    have h2 := hfit.2
    unfold opsSize
    omega
  · simp [opsSize, partO]
  · simp [opsSize, partO]
  · simp [opsSize, partO]
  · simp [opsSize, partO]

set_option linter.unusedSimpArgs false in
set_option maxHeartbeats 4000000 in
set_option maxRecDepth 100000 in
theorem implReplaceRel (sz : Int) (a1 : Option Addr) (n1 c1 : Nat) (rs : List (Int × List (List Int))) (fr va : Int) (a2 : Option Addr) (n2 c2 : Nat) (fs : List (Int × List Int)) (rel : Int) (fr2 vg : Int) (a3 : Option Addr) (n3 c3 : Nat) (gs : List (Int × List Int)) (x y : Int) (zs : List (Int × List Int)) (cd : Int) (w : World) (h1 : RelsAt w (.slice a1 n1 c1) rs) (h2 : OpsAt w (.slice a2 n2 c2) fs) (h3 : OpsAt w (.slice a3 n3 c3) gs) (hi : ReplaceRelIs sz rs fr va fs rel fr2 vg gs x y zs cd) :
    Calls Try.prog 23 #[.agg #[.int .i64 sz, .slice a1 n1 c1], .agg #[.int .i64 fr, .int .i64 va, .slice a2 n2 c2], .int .i64 rel, .agg #[.int .i64 fr2, .int .i64 vg, .slice a3 n3 c3]] w (MadeF w x y zs cd) := by
  have HR0 : Hid (Box 32 (((((w.alloc (.cells #[.int .i64 sz, .slice a1 n1 c1] 37)).alloc (.cells #[.int .i64 fr, .int .i64 va, .slice a2 n2 c2] 32)).alloc (.cells #[.int .i64 rel] 2)).alloc (.cells #[.int .i64 fr2, .int .i64 vg, .slice a3 n3 c3] 32)).alloc (.cells #[.int .i64 0, .int .i64 0, .slice none 0 0] 32)) (w.heap.size + 4) #[.int .i64 0, .int .i64 0, .slice none 0 0]) := Lib.hid (by
    have h := Box.new 32 ((((w.alloc (.cells #[.int .i64 sz, .slice a1 n1 c1] 37)).alloc (.cells #[.int .i64 fr, .int .i64 va, .slice a2 n2 c2] 32)).alloc (.cells #[.int .i64 rel] 2)).alloc (.cells #[.int .i64 fr2, .int .i64 vg, .slice a3 n3 c3] 32)) #[.int .i64 0, .int .i64 0, .slice none 0 0]
    simp only [World.size_alloc] at h
    exact h)
  have K0 := Lib.hid (((((((((Kept.start w).read (lives_rels _ _) h1).read (lives_ops _ _) h2).read (lives_ops _ _) h3).box w.heap.size rfl (.int .i64 sz) (.slice a1 n1 c1) 37).box3 (w.heap.size + 1) (by simp) (.int .i64 fr) (.int .i64 va) (.slice a2 n2 c2) 32).box1 (w.heap.size + 2) (by simp) (.int .i64 rel) 2).box3 (w.heap.size + 3) (by simp) (.int .i64 fr2) (.int .i64 vg) (.slice a3 n3 c3) 32).below ((Below.refl _ _).alloc (Nat.le_refl _) (.cells #[.int .i64 0, .int .i64 0, .slice none 0 0] 32)))
  clear h1 h2 h3
  rcases hi with ⟨hf, hg, hin, har, hi2⟩ | ⟨hf, hg, hin, hne, rfl, rfl, rfl, rfl⟩ | ⟨hf, hg, hin, rfl, rfl, rfl, rfl⟩ | ⟨hno, rfl, rfl, rfl, rfl⟩
  · have HV := Lib.hid (Tells.yes hf)
    have HW := Lib.hid (Tells.yes hg)
    have HIN := Lib.hid (Tells.yes hin)
    obtain ⟨r, rfl⟩ : ∃ r : Nat, rel = r := ⟨rel.toNat, by omega⟩
    have hrr : r < rs.length := by omega
    have hrrI : (r : Int) < (rs.length : Int) := by omega
    rw [Int.toNat_natCast] at har
    obtain ⟨q, rfl⟩ : ∃ q : Nat, fr2 = q := ⟨fr2.toNat, by have := hg.2.1.1.1; omega⟩
    obtain ⟨v, rfl⟩ : ∃ v : Nat, va = v := ⟨va.toNat, by have := hf.2.1.1.1; have := hf.2.1.2.1.1; omega⟩
    obtain ⟨m, hm⟩ : ∃ m : Nat, (vg - (q : Int)) = m := ⟨(vg - (q : Int)).toNat, by have := hg.2.1.2.1.1; omega⟩
    have HVG : Hid (vg = q + m) := Lib.hid (by omega)
    have hq0 : 0 < q := by have := hg.2.1.1.1; omega
    have hq4 : q ≤ 4 := by have := hg.2.1.1.2; omega
    have hm8 : m ≤ 8 := by have := hg.2.1.2.1.2; omega
    have hv8 : v ≤ 8 := by have := hf.2.1.2.1.2; omega
    have HFL : Hid (∀ k, k < fs.length → (rowO fs k).length ≤ 1000) := Lib.hid (fun k hk => by have := (hf.text.2 k hk).2.1.2; omega)
    have HFR : Hid (∀ k, k < fs.length → ∀ i, i < (rowO fs k).length → 0 ≤ intN (rowO fs k) i ∧ intN (rowO fs k) i < (v : Int)) := Lib.hid (fun k hk i hi => (hf.text.2 k hk).2.2.2 i hi)
    have HFQ : Hid (∀ k, k < fs.length → arO fs k = (r : Int) → (rowO fs k).length = q) := Lib.hid (fun k hk e => by
      have h1 := (hf.2.2 k hk).2.1
      rw [e, arityOf_in hrr, ← har] at h1
      omega)
    have HGL : Hid (∀ k, k < gs.length → (rowO gs k).length ≤ 1000) := Lib.hid (fun k hk => by have := (hg.text.2 k hk).2.1.2; omega)
    have HGR : Hid (∀ k, k < gs.length → ∀ i, i < (rowO gs k).length → 0 ≤ intN (rowO gs k) i ∧ intN (rowO gs k) i < vg) := Lib.hid (fun k hk i hi => (hg.text.2 k hk).2.2.2 i hi)
    rw [hm, Int.toNat_natCast, Int.toNat_natCast] at hi2
    have hab : ((q : Int) == arN rs r) = true := beq_iff_eq.2 har
    have hab2 : ((q : Int) != arN rs r) = false := by simp [har]
    clear hf hg hin hm har
    rcases hi2 with ⟨hfit, rfl, rfl, rfl, rfl⟩ | ⟨hfit, rfl, rfl, rfl, rfl⟩
    · have HFIT := Lib.hid hfit
      clear hfit
      go_enter Try.func23, Try.ntmps23
      go_wp2_with fail
      refine (implValidFormula _ _ _ _ rs _ _ _ _ _ fs true _ (K0.out.r 2 rfl :) (K0.out.r 1 rfl :) HV.out).mono ?_
      rintro e w1 ⟨rfl, hb1⟩
      have K1 := Lib.hid (K0.out.below hb1)
      have HR1 := Lib.hid (HR0.out.below hb1)
      have hz1 : w.heap.size + 5 ≤ w1.heap.size := by have := hb1.size; simpa using this
      clear hb1
      have cc0 := K1.out.c 0 rfl
      have cc1 := K1.out.c 1 rfl
      have cc2 := K1.out.c 2 rfl
      have cc3 := K1.out.c 3 rfl
      have cc4 := K1.out.c 4 rfl
      have cc5 := K1.out.c 5 rfl
      have cc6 := K1.out.c 6 rfl
      have cc7 := K1.out.c 7 rfl
      have cc8 := K1.out.c 8 rfl
      go_wp2_with fail
      refine (implValidFormula _ _ _ _ rs _ _ _ _ _ gs true _ (K1.out.r 2 rfl :) (K1.out.r 0 rfl :) HW.out).mono ?_
      rintro e w2 ⟨rfl, hb2⟩
      have K2 := Lib.hid (K1.out.below hb2)
      have HR2 := Lib.hid (HR1.out.below hb2)
      have hz2 : w.heap.size + 5 ≤ w2.heap.size := by have := hb2.size; omega
      clear hb2
      clear cc0 cc1 cc2 cc3 cc4 cc5 cc6 cc7 cc8
      have cc0 := K2.out.c 0 rfl
      have cc1 := K2.out.c 1 rfl
      have cc2 := K2.out.c 2 rfl
      have cc3 := K2.out.c 3 rfl
      have cc4 := K2.out.c 4 rfl
      have cc5 := K2.out.c 5 rfl
      have cc6 := K2.out.c 6 rfl
      have cc7 := K2.out.c 7 rfl
      have cc8 := K2.out.c 8 rfl
      go_wp2_with fail
      refine (isRelOf _ _ _ _ rs _ true _ (K2.out.r 2 rfl :) HIN.out).mono ?_
      rintro e w3 ⟨rfl, hb3⟩
      have K3 := Lib.hid (K2.out.below hb3)
      have HR3 := Lib.hid (HR2.out.below hb3)
      have hz3 : w.heap.size + 5 ≤ w3.heap.size := by have := hb3.size; omega
      clear hb3
      clear cc0 cc1 cc2 cc3 cc4 cc5 cc6 cc7 cc8
      have cc0 := K3.out.c 0 rfl
      have cc1 := K3.out.c 1 rfl
      have cc2 := K3.out.c 2 rfl
      have cc3 := K3.out.c 3 rfl
      have cc4 := K3.out.c 4 rfl
      have cc5 := K3.out.c 5 rfl
      have cc6 := K3.out.c 6 rfl
      have cc7 := K3.out.c 7 rfl
      have cc8 := K3.out.c 8 rfl
      obtain ⟨ra, rc, hrv, hrn, hrc⟩ := (K3.out.r 2 rfl : RelsAt w3 (.slice a1 n1 c1) rs)
      simp only [Value.slice.injEq] at hrv
      obtain ⟨rfl, rfl, rfl⟩ := hrv
      obtain ⟨b3, off3, ha3, hcell3⟩ := hrc (by omega)
      subst ha3
      obtain ⟨z0, -⟩ := hcell3 r hrr
      clear hrc hcell3
      go_wp2
      go_quiet (fail)
      go_wp2_with (go_at_call 53; refine (replAtoms_ok _ (w.heap.size + 2) (w.heap.size + 3) v m q _ (r : Int) _ a2 n2 c2 a3 n3 c3 fs gs ((K3.out.drewN _).c 3 rfl) ((K3.out.drewN _).c 0 rfl) ((K3.out.drewN _).c 1 rfl) ((K3.out.drewN _).c 2 rfl) ((K3.out.drewN _).r 1 rfl :) ((K3.out.drewN _).r 0 rfl :) hq0 hq4 HVG.out hm8 hv8 HFL.out HFR.out HFQ.out HGL.out HGR.out HFIT.out).mono ?_; rintro e w5 ⟨a5, n5, c5, rfl, ho5, hb5⟩; have HO5 := Lib.hid ho5; have HB5 := Lib.hid hb5; have HR5 := Lib.hid ((HR3.out.below ((QW.refl _).drewN _ |>.below _)).below hb5); have e0 := HR5.out.c 0 rfl; have f0 := HR5.out.free 0; have e1 := HR5.out.c 1 rfl; have f1 := HR5.out.free 1; have e2 := HR5.out.c 2 rfl; have f2 := HR5.out.free 2; clear ho5 hb5)
      refine bodyPost_ret (v := .tuple #[.agg #[.int .i64 fr, .int .i64 ((rplY v m fs (r : Int) fs.length : Nat) : Int), .slice a5 n5 c5], .int .i64 0]) (by simp [results, Try.results23, go_sem, e0, e1, e2]) rfl ⟨a5, n5, c5, rfl, ?_, ?_⟩
      · exact ((((HO5.out.stored (by show w.heap.size + 4 < w3.heap.size; omega) _).stored (by show w.heap.size + 4 < w3.heap.size; omega) _).stored (by show w.heap.size + 4 < w3.heap.size; omega) _).mono (by show w.heap.size ≤ w3.heap.size; omega)).full
      · exact (((((K3.out.drewN _).bel.trans (HB5.out.mono K3.out.bel.size)).setCell (by show w.heap.size ≤ w.heap.size + 4; omega) _).setCell (by show w.heap.size ≤ w.heap.size + 4; omega) _).setCell (by show w.heap.size ≤ w.heap.size + 4; omega) _)
    · have HFIT := Lib.hid hfit
      clear hfit
      go_enter Try.func23, Try.ntmps23
      go_wp2_with fail
      refine (implValidFormula _ _ _ _ rs _ _ _ _ _ fs true _ (K0.out.r 2 rfl :) (K0.out.r 1 rfl :) HV.out).mono ?_
      rintro e w1 ⟨rfl, hb1⟩
      have K1 := Lib.hid (K0.out.below hb1)
      have HR1 := Lib.hid (HR0.out.below hb1)
      have hz1 : w.heap.size + 5 ≤ w1.heap.size := by have := hb1.size; simpa using this
      clear hb1
      have cc0 := K1.out.c 0 rfl
      have cc1 := K1.out.c 1 rfl
      have cc2 := K1.out.c 2 rfl
      have cc3 := K1.out.c 3 rfl
      have cc4 := K1.out.c 4 rfl
      have cc5 := K1.out.c 5 rfl
      have cc6 := K1.out.c 6 rfl
      have cc7 := K1.out.c 7 rfl
      have cc8 := K1.out.c 8 rfl
      go_wp2_with fail
      refine (implValidFormula _ _ _ _ rs _ _ _ _ _ gs true _ (K1.out.r 2 rfl :) (K1.out.r 0 rfl :) HW.out).mono ?_
      rintro e w2 ⟨rfl, hb2⟩
      have K2 := Lib.hid (K1.out.below hb2)
      have HR2 := Lib.hid (HR1.out.below hb2)
      have hz2 : w.heap.size + 5 ≤ w2.heap.size := by have := hb2.size; omega
      clear hb2
      clear cc0 cc1 cc2 cc3 cc4 cc5 cc6 cc7 cc8
      have cc0 := K2.out.c 0 rfl
      have cc1 := K2.out.c 1 rfl
      have cc2 := K2.out.c 2 rfl
      have cc3 := K2.out.c 3 rfl
      have cc4 := K2.out.c 4 rfl
      have cc5 := K2.out.c 5 rfl
      have cc6 := K2.out.c 6 rfl
      have cc7 := K2.out.c 7 rfl
      have cc8 := K2.out.c 8 rfl
      go_wp2_with fail
      refine (isRelOf _ _ _ _ rs _ true _ (K2.out.r 2 rfl :) HIN.out).mono ?_
      rintro e w3 ⟨rfl, hb3⟩
      have K3 := Lib.hid (K2.out.below hb3)
      have HR3 := Lib.hid (HR2.out.below hb3)
      have hz3 : w.heap.size + 5 ≤ w3.heap.size := by have := hb3.size; omega
      clear hb3
      clear cc0 cc1 cc2 cc3 cc4 cc5 cc6 cc7 cc8
      have cc0 := K3.out.c 0 rfl
      have cc1 := K3.out.c 1 rfl
      have cc2 := K3.out.c 2 rfl
      have cc3 := K3.out.c 3 rfl
      have cc4 := K3.out.c 4 rfl
      have cc5 := K3.out.c 5 rfl
      have cc6 := K3.out.c 6 rfl
      have cc7 := K3.out.c 7 rfl
      have cc8 := K3.out.c 8 rfl
      obtain ⟨ra, rc, hrv, hrn, hrc⟩ := (K3.out.r 2 rfl : RelsAt w3 (.slice a1 n1 c1) rs)
      simp only [Value.slice.injEq] at hrv
      obtain ⟨rfl, rfl, rfl⟩ := hrv
      obtain ⟨b3, off3, ha3, hcell3⟩ := hrc (by omega)
      subst ha3
      obtain ⟨z0, -⟩ := hcell3 r hrr
      clear hrc hcell3
      go_wp2
      go_quiet (fail)
      go_wp2_with (go_at_call 53; refine (replAtoms_told _ (w.heap.size + 2) (w.heap.size + 3) v m q _ (r : Int) _ a2 n2 c2 a3 n3 c3 fs gs ((K3.out.drewN _).c 3 rfl) ((K3.out.drewN _).c 0 rfl) ((K3.out.drewN _).c 1 rfl) ((K3.out.drewN _).c 2 rfl) ((K3.out.drewN _).r 1 rfl :) ((K3.out.drewN _).r 0 rfl :) hq0 hq4 HVG.out hm8 hv8 HFL.out HFR.out HFQ.out HGL.out HGR.out HFIT.out).mono ?_; rintro e w5 ⟨a5, n5, c5, rfl, ho5, hb5⟩; have HO5 := Lib.hid ho5; have HB5 := Lib.hid hb5; have HR5 := Lib.hid ((HR3.out.below ((QW.refl _).drewN _ |>.below _)).below hb5); have e0 := HR5.out.c 0 rfl; have f0 := HR5.out.free 0; have e1 := HR5.out.c 1 rfl; have f1 := HR5.out.free 1; have e2 := HR5.out.c 2 rfl; have f2 := HR5.out.free 2; clear ho5 hb5)
      refine bodyPost_ret (v := .tuple #[.agg #[.int .i64 0, .int .i64 0, .slice a5 n5 c5], .int .i64 3]) (by simp [results, Try.results23, go_sem, e0, e1, e2]) rfl ⟨a5, n5, c5, rfl, ?_, ?_⟩
      · exact ((((HO5.out.stored (by show w.heap.size + 4 < w3.heap.size; omega) _).stored (by show w.heap.size + 4 < w3.heap.size; omega) _).stored (by show w.heap.size + 4 < w3.heap.size; omega) _).mono (by show w.heap.size ≤ w3.heap.size; omega)).full
      · exact (((((K3.out.drewN _).bel.trans (HB5.out.mono K3.out.bel.size)).setCell (by show w.heap.size ≤ w.heap.size + 4; omega) _).setCell (by show w.heap.size ≤ w.heap.size + 4; omega) _).setCell (by show w.heap.size ≤ w.heap.size + 4; omega) _)
  · have HV := Lib.hid (Tells.yes hf)
    have HW := Lib.hid (Tells.yes hg)
    have HIN := Lib.hid (Tells.yes hin)
    obtain ⟨r, rfl⟩ : ∃ r : Nat, rel = r := ⟨rel.toNat, by omega⟩
    have hrr : r < rs.length := by omega
    have hrrI : (r : Int) < (rs.length : Int) := by omega
    rw [Int.toNat_natCast] at hne
    have hab : (fr2 == arN rs r) = false := beq_eq_false_iff_ne.2 hne
    have hab2 : (fr2 != arN rs r) = true := bne_iff_ne.2 hne
    clear hf hg hin hne
    go_enter Try.func23, Try.ntmps23
    go_wp2_with fail
    refine (implValidFormula _ _ _ _ rs _ _ _ _ _ fs true _ (K0.out.r 2 rfl :) (K0.out.r 1 rfl :) HV.out).mono ?_
    rintro e w1 ⟨rfl, hb1⟩
    have K1 := Lib.hid (K0.out.below hb1)
    have HR1 := Lib.hid (HR0.out.below hb1)
    have hz1 : w.heap.size + 5 ≤ w1.heap.size := by have := hb1.size; simpa using this
    clear hb1
    have cc0 := K1.out.c 0 rfl
    have cc1 := K1.out.c 1 rfl
    have cc2 := K1.out.c 2 rfl
    have cc3 := K1.out.c 3 rfl
    have cc4 := K1.out.c 4 rfl
    have cc5 := K1.out.c 5 rfl
    have cc6 := K1.out.c 6 rfl
    have cc7 := K1.out.c 7 rfl
    have cc8 := K1.out.c 8 rfl
    go_wp2_with fail
    refine (implValidFormula _ _ _ _ rs _ _ _ _ _ gs true _ (K1.out.r 2 rfl :) (K1.out.r 0 rfl :) HW.out).mono ?_
    rintro e w2 ⟨rfl, hb2⟩
    have K2 := Lib.hid (K1.out.below hb2)
    have HR2 := Lib.hid (HR1.out.below hb2)
    have hz2 : w.heap.size + 5 ≤ w2.heap.size := by have := hb2.size; omega
    clear hb2
    clear cc0 cc1 cc2 cc3 cc4 cc5 cc6 cc7 cc8
    have cc0 := K2.out.c 0 rfl
    have cc1 := K2.out.c 1 rfl
    have cc2 := K2.out.c 2 rfl
    have cc3 := K2.out.c 3 rfl
    have cc4 := K2.out.c 4 rfl
    have cc5 := K2.out.c 5 rfl
    have cc6 := K2.out.c 6 rfl
    have cc7 := K2.out.c 7 rfl
    have cc8 := K2.out.c 8 rfl
    go_wp2_with fail
    refine (isRelOf _ _ _ _ rs _ true _ (K2.out.r 2 rfl :) HIN.out).mono ?_
    rintro e w3 ⟨rfl, hb3⟩
    have K3 := Lib.hid (K2.out.below hb3)
    have HR3 := Lib.hid (HR2.out.below hb3)
    have hz3 : w.heap.size + 5 ≤ w3.heap.size := by have := hb3.size; omega
    clear hb3
    clear cc0 cc1 cc2 cc3 cc4 cc5 cc6 cc7 cc8
    have cc0 := K3.out.c 0 rfl
    have cc1 := K3.out.c 1 rfl
    have cc2 := K3.out.c 2 rfl
    have cc3 := K3.out.c 3 rfl
    have cc4 := K3.out.c 4 rfl
    have cc5 := K3.out.c 5 rfl
    have cc6 := K3.out.c 6 rfl
    have cc7 := K3.out.c 7 rfl
    have cc8 := K3.out.c 8 rfl
    obtain ⟨ra, rc, hrv, hrn, hrc⟩ := (K3.out.r 2 rfl : RelsAt w3 (.slice a1 n1 c1) rs)
    simp only [Value.slice.injEq] at hrv
    obtain ⟨rfl, rfl, rfl⟩ := hrv
    obtain ⟨b3, off3, ha3, hcell3⟩ := hrc (by omega)
    subst ha3
    obtain ⟨z0, -⟩ := hcell3 r hrr
    clear hrc hcell3
    go_wp2
    go_quiet (fail)
    have e0 := HR3.out.c 0 rfl
    have f0 := HR3.out.free 0
    have e1 := HR3.out.c 1 rfl
    have f1 := HR3.out.free 1
    have e2 := HR3.out.c 2 rfl
    have f2 := HR3.out.free 2
    go_wp2
    refine bodyPost_ret (v := .tuple #[.agg #[.int .i64 0, .int .i64 0, .slice none 0 0], .int .i64 4]) (by simp [results, Try.results23, go_sem, e0, e1, e2]) rfl ⟨_, _, _, rfl, OwnOps.nil _ _ _ _ (Nat.le_refl _), ?_⟩
    exact ((((K3.out.drewN _).bel.setCell (by show w.heap.size ≤ w.heap.size + 4; omega) _).setCell (by show w.heap.size ≤ w.heap.size + 4; omega) _).setCell (by show w.heap.size ≤ w.heap.size + 4; omega) _)
  · have HV := Lib.hid (Tells.yes hf)
    have HW := Lib.hid (Tells.yes hg)
    have HIN := Lib.hid (Tells.no hin)
    clear hf hg hin
    go_enter Try.func23, Try.ntmps23
    go_wp2_with fail
    refine (implValidFormula _ _ _ _ rs _ _ _ _ _ fs true _ (K0.out.r 2 rfl :) (K0.out.r 1 rfl :) HV.out).mono ?_
    rintro e w1 ⟨rfl, hb1⟩
    have K1 := Lib.hid (K0.out.below hb1)
    have HR1 := Lib.hid (HR0.out.below hb1)
    have hz1 : w.heap.size + 5 ≤ w1.heap.size := by have := hb1.size; simpa using this
    clear hb1
    have cc0 := K1.out.c 0 rfl
    have cc1 := K1.out.c 1 rfl
    have cc2 := K1.out.c 2 rfl
    have cc3 := K1.out.c 3 rfl
    have cc4 := K1.out.c 4 rfl
    have cc5 := K1.out.c 5 rfl
    have cc6 := K1.out.c 6 rfl
    have cc7 := K1.out.c 7 rfl
    have cc8 := K1.out.c 8 rfl
    go_wp2_with fail
    refine (implValidFormula _ _ _ _ rs _ _ _ _ _ gs true _ (K1.out.r 2 rfl :) (K1.out.r 0 rfl :) HW.out).mono ?_
    rintro e w2 ⟨rfl, hb2⟩
    have K2 := Lib.hid (K1.out.below hb2)
    have HR2 := Lib.hid (HR1.out.below hb2)
    have hz2 : w.heap.size + 5 ≤ w2.heap.size := by have := hb2.size; omega
    clear hb2
    clear cc0 cc1 cc2 cc3 cc4 cc5 cc6 cc7 cc8
    have cc0 := K2.out.c 0 rfl
    have cc1 := K2.out.c 1 rfl
    have cc2 := K2.out.c 2 rfl
    have cc3 := K2.out.c 3 rfl
    have cc4 := K2.out.c 4 rfl
    have cc5 := K2.out.c 5 rfl
    have cc6 := K2.out.c 6 rfl
    have cc7 := K2.out.c 7 rfl
    have cc8 := K2.out.c 8 rfl
    go_wp2_with fail
    refine (isRelOf _ _ _ _ rs _ false _ (K2.out.r 2 rfl :) HIN.out).mono ?_
    rintro e w3 ⟨rfl, hb3⟩
    have K3 := Lib.hid (K2.out.below hb3)
    have HR3 := Lib.hid (HR2.out.below hb3)
    have hz3 : w.heap.size + 5 ≤ w3.heap.size := by have := hb3.size; omega
    clear hb3
    clear cc0 cc1 cc2 cc3 cc4 cc5 cc6 cc7 cc8
    have cc0 := K3.out.c 0 rfl
    have cc1 := K3.out.c 1 rfl
    have cc2 := K3.out.c 2 rfl
    have cc3 := K3.out.c 3 rfl
    have cc4 := K3.out.c 4 rfl
    have cc5 := K3.out.c 5 rfl
    have cc6 := K3.out.c 6 rfl
    have cc7 := K3.out.c 7 rfl
    have cc8 := K3.out.c 8 rfl
    have e0 := HR3.out.c 0 rfl
    have f0 := HR3.out.free 0
    have e1 := HR3.out.c 1 rfl
    have f1 := HR3.out.free 1
    have e2 := HR3.out.c 2 rfl
    have f2 := HR3.out.free 2
    go_wp2
    refine bodyPost_ret (v := .tuple #[.agg #[.int .i64 0, .int .i64 0, .slice none 0 0], .int .i64 2]) (by simp [results, Try.results23, go_sem, e0, e1, e2]) rfl ⟨_, _, _, rfl, OwnOps.nil _ _ _ _ (Nat.le_refl _), ?_⟩
    exact (((K3.out.bel.setCell (by show w.heap.size ≤ w.heap.size + 4; omega) _).setCell (by show w.heap.size ≤ w.heap.size + 4; omega) _).setCell (by show w.heap.size ≤ w.heap.size + 4; omega) _)
  · by_cases hf : FormOk sz rs fr va fs
    · have HV := Lib.hid (Tells.yes hf)
      have HW := Lib.hid (Tells.no fun hg => hno ⟨hf, hg⟩)
      clear hf hno
      go_enter Try.func23, Try.ntmps23
      go_wp2_with fail
      refine (implValidFormula _ _ _ _ rs _ _ _ _ _ fs true _ (K0.out.r 2 rfl :) (K0.out.r 1 rfl :) HV.out).mono ?_
      rintro e w1 ⟨rfl, hb1⟩
      have K1 := Lib.hid (K0.out.below hb1)
      have HR1 := Lib.hid (HR0.out.below hb1)
      have hz1 : w.heap.size + 5 ≤ w1.heap.size := by have := hb1.size; simpa using this
      clear hb1
      have cc0 := K1.out.c 0 rfl
      have cc1 := K1.out.c 1 rfl
      have cc2 := K1.out.c 2 rfl
      have cc3 := K1.out.c 3 rfl
      have cc4 := K1.out.c 4 rfl
      have cc5 := K1.out.c 5 rfl
      have cc6 := K1.out.c 6 rfl
      have cc7 := K1.out.c 7 rfl
      have cc8 := K1.out.c 8 rfl
      go_wp2_with fail
      refine (implValidFormula _ _ _ _ rs _ _ _ _ _ gs false _ (K1.out.r 2 rfl :) (K1.out.r 0 rfl :) HW.out).mono ?_
      rintro e w2 ⟨rfl, hb2⟩
      have K2 := Lib.hid (K1.out.below hb2)
      have HR2 := Lib.hid (HR1.out.below hb2)
      have hz2 : w.heap.size + 5 ≤ w2.heap.size := by have := hb2.size; omega
      clear hb2
      clear cc0 cc1 cc2 cc3 cc4 cc5 cc6 cc7 cc8
      have cc0 := K2.out.c 0 rfl
      have cc1 := K2.out.c 1 rfl
      have cc2 := K2.out.c 2 rfl
      have cc3 := K2.out.c 3 rfl
      have cc4 := K2.out.c 4 rfl
      have cc5 := K2.out.c 5 rfl
      have cc6 := K2.out.c 6 rfl
      have cc7 := K2.out.c 7 rfl
      have cc8 := K2.out.c 8 rfl
      have e0 := HR2.out.c 0 rfl
      have f0 := HR2.out.free 0
      have e1 := HR2.out.c 1 rfl
      have f1 := HR2.out.free 1
      have e2 := HR2.out.c 2 rfl
      have f2 := HR2.out.free 2
      go_wp2
      refine bodyPost_ret (v := .tuple #[.agg #[.int .i64 0, .int .i64 0, .slice none 0 0], .int .i64 1]) (by simp [results, Try.results23, go_sem, e0, e1, e2]) rfl ⟨_, _, _, rfl, OwnOps.nil _ _ _ _ (Nat.le_refl _), ?_⟩
      exact (((K2.out.bel.setCell (by show w.heap.size ≤ w.heap.size + 4; omega) _).setCell (by show w.heap.size ≤ w.heap.size + 4; omega) _).setCell (by show w.heap.size ≤ w.heap.size + 4; omega) _)
    · have HV := Lib.hid (Tells.no hf)
      clear hf hno
      go_enter Try.func23, Try.ntmps23
      go_wp2_with fail
      refine (implValidFormula _ _ _ _ rs _ _ _ _ _ fs false _ (K0.out.r 2 rfl :) (K0.out.r 1 rfl :) HV.out).mono ?_
      rintro e w1 ⟨rfl, hb1⟩
      have K1 := Lib.hid (K0.out.below hb1)
      have HR1 := Lib.hid (HR0.out.below hb1)
      have hz1 : w.heap.size + 5 ≤ w1.heap.size := by have := hb1.size; simpa using this
      clear hb1
      have cc0 := K1.out.c 0 rfl
      have cc1 := K1.out.c 1 rfl
      have cc2 := K1.out.c 2 rfl
      have cc3 := K1.out.c 3 rfl
      have cc4 := K1.out.c 4 rfl
      have cc5 := K1.out.c 5 rfl
      have cc6 := K1.out.c 6 rfl
      have cc7 := K1.out.c 7 rfl
      have cc8 := K1.out.c 8 rfl
      have e0 := HR1.out.c 0 rfl
      have f0 := HR1.out.free 0
      have e1 := HR1.out.c 1 rfl
      have f1 := HR1.out.free 1
      have e2 := HR1.out.c 2 rfl
      have f2 := HR1.out.free 2
      go_wp2
      refine bodyPost_ret (v := .tuple #[.agg #[.int .i64 0, .int .i64 0, .slice none 0 0], .int .i64 1]) (by simp [results, Try.results23, go_sem, e0, e1, e2]) rfl ⟨_, _, _, rfl, OwnOps.nil _ _ _ _ (Nat.le_refl _), ?_⟩
      exact (((K1.out.bel.setCell (by show w.heap.size ≤ w.heap.size + 4; omega) _).setCell (by show w.heap.size ≤ w.heap.size + 4; omega) _).setCell (by show w.heap.size ≤ w.heap.size + 4; omega) _)

end Go.Proofs.Ytnbgpeoceejolab
