/-
  contradiction and hasAnswers of the program.
-/
import Derived.Test.YtnbgpeoceejolaaElimOf
import Derived.Test.YtnbgpeoceejolaaRankS
namespace Go.Proofs.Ytnbgpeoceejolaa
open Go.RowKit

theorem ElimAt.below {w w' : World} {eb rb g n l u d : Nat} {s : Nat → Nat} {p : Int} {F : Nat → Int} {R : Nat → List Int} (h : ElimAt w eb rb g n l u d s p F R) (hb : Below w.heap.size w w') : ElimAt w' eb rb g n l u d s p F R :=
  ⟨h.box.below hb, h.rows.turn (fun _ => h.hrb) hb.only (h.rows.flat.same (hb.block g h.rows.inn)) h.rows.low (fun o => (World.frozen?_of_block (hb.block rb h.hrb)).trans (h.rows.frz o)), h.eq, Nat.lt_of_lt_of_le h.hrb hb.size, Nat.lt_of_lt_of_le h.heb hb.size, h.heg, h.her⟩
theorem ElimAt.drew {w : World} {eb rb g n l u d : Nat} {s : Nat → Nat} {p : Int} {F : Nat → Int} {R : Nat → List Int} (h : ElimAt w eb rb g n l u d s p F R) : ElimAt w.drew eb rb g n l u d s p F R := h.below (Below.refl _ _).drew

set_option linter.unusedSimpArgs false in
set_option maxHeartbeats 4000000 in
set_option maxRecDepth 100000 in
theorem contradictionC (eb rb g n l u d : Nat) (s : Nat → Nat) (p : Int) (F : Nat → Int) (R : Nat → List Int) (m : Int) (w : World) (h : ElimAt w eb rb g n l u d s p F R) (hul : u < l) (hd : d ≤ n) (hn : n ≤ 1000) (hm : FalseAt R u d n m) :
    Calls Try.prog 84 #[.pointer (some ⟨eb, 0, none⟩)] w fun e w' => ((∃ i : Nat, m = i ∧ d ≤ i ∧ i < n ∧ e = .returned (.tuple #[.slice (some ⟨g, s i * l, none⟩) l l, .bool true])) ∨ (m = -1 ∧ e = .returned (.tuple #[.slice none 0 0, .bool false]))) ∧ w' = w.drew := by
  have HE := Lib.hid h.drew
  have HM := Lib.hid hm
  have x2 : w.cell? ⟨eb, 2, none⟩ = some (.slice (some ⟨rb, 0, none⟩) n n) := h.box.c 2 rfl
  have x3 : w.cell? ⟨eb, 3, none⟩ = some (.int .i64 (d : Int)) := h.box.c 3 rfl
  obtain ⟨q, hq⟩ : ∃ q, n - d = q := ⟨_, rfl⟩
  clear h hm
  go_enter Try.func84, Try.ntmps84
  go_wp2_with fail
  refine wp_region_noPanic ?_
  refine wp_region_late (S := (fun w' => w'.cell? ⟨eb, 2, none⟩ = some (.slice (some ⟨rb, 0, none⟩) n n) ∧ w'.cell? ⟨eb, 3, none⟩ = some (.int .i64 (d : Int)))) [] (by kernel_rfl) ?_ (fun hHeld => ?_)
  · exact ⟨x2, x3⟩
  refine wpAnyL_free (i := 0) (v := ?_) (some 6) rfl rfl (by kernel_rfl) (by kernel_rfl) (by kernel_rfl) (by decide) (fun _ _ _ h => h) (Or.inl ⟨by rfl, ?_⟩) (fun h0 => by assumption) ?_
  rotate_left
  · intro wS
    go_simp
    try with_reducible rfl
  try simp only [Act.put, List.setIfInBounds_toArray, List.set_cons_zero, List.set_cons_succ]
  refine wpAnyL_free (i := 1) (v := ?_) (some 7) rfl rfl (by kernel_rfl) (by kernel_rfl) (by kernel_rfl) (by decide) (fun _ _ _ h => h) (Or.inl ⟨by rfl, ?_⟩) (fun h0 => by assumption) ?_
  rotate_left
  · intro wS
    go_simp
    try with_reducible rfl
  try simp only [Act.put, List.setIfInBounds_toArray, List.set_cons_zero, List.set_cons_succ]
  refine wpAnyL_free (i := 2) (v := ?_) (some 8) rfl rfl (by kernel_rfl) (by kernel_rfl) (by kernel_rfl) (by decide) (fun _ _ _ h => h) (Or.inl ⟨by rfl, ?_⟩) (fun h0 => by assumption) ?_
  rotate_left
  · intro wS
    go_simp
    try with_reducible rfl
  try simp only [Act.put, List.setIfInBounds_toArray, List.set_cons_zero, List.set_cons_succ]
  refine wpAnyL_take (i := 3) (v := ?_) (some 9) rfl rfl (by kernel_rfl) (by kernel_rfl) (by kernel_rfl) (by kernel_rfl) (by kernel_rfl) (fun _ _ _ h => h) (Or.inl ⟨by rfl, ?_⟩) (by assumption) ?_
  rotate_left
  · intro wS hSw
    try dsimp only at hSw
    go_simp
    try with_reducible rfl
  try simp only [Act.put, List.setIfInBounds_toArray, List.set_cons_zero, List.set_cons_succ]
  refine wpAnyL_free (i := 4) (v := ?_) (some 10) rfl rfl (by kernel_rfl) (by kernel_rfl) (by kernel_rfl) (by decide) (fun _ _ _ h => h) (Or.inl ⟨by rfl, ?_⟩) (fun h0 => by assumption) ?_
  rotate_left
  · intro wS
    go_simp
    try with_reducible rfl
  try simp only [Act.put, List.setIfInBounds_toArray, List.set_cons_zero, List.set_cons_succ]
  refine wpAnyL_free (i := 5) (v := ?_) (some 11) rfl rfl (by kernel_rfl) (by kernel_rfl) (by kernel_rfl) (by decide) (fun _ _ _ h => h) (Or.inl ⟨by rfl, ?_⟩) (fun h0 => by assumption) ?_
  rotate_left
  · intro wS
    go_simp
    try with_reducible rfl
  try simp only [Act.put, List.setIfInBounds_toArray, List.set_cons_zero, List.set_cons_succ]
  refine wpAnyL_free (i := 6) (v := ?_) (some 12) rfl rfl (by kernel_rfl) (by kernel_rfl) (by kernel_rfl) (by decide) (fun _ _ _ h => h) (Or.inl ⟨by rfl, ?_⟩) (fun h0 => by assumption) ?_
  rotate_left
  · intro wS
    go_simp
    try with_reducible rfl
  try simp only [Act.put, List.setIfInBounds_toArray, List.set_cons_zero, List.set_cons_succ]
  refine wpAnyL_take (i := 7) (v := ?_) (some 13) rfl rfl (by kernel_rfl) (by kernel_rfl) (by kernel_rfl) (by kernel_rfl) (by kernel_rfl) (fun _ _ _ h => h) (Or.inl ⟨by rfl, ?_⟩) (by assumption) ?_
  rotate_left
  · intro wS hSw
    try dsimp only at hSw
    go_simp
    try with_reducible rfl
  try simp only [Act.put, List.setIfInBounds_toArray, List.set_cons_zero, List.set_cons_succ]
  refine wpAnyL_free (i := 8) (v := ?_) (some 14) rfl rfl (by kernel_rfl) (by kernel_rfl) (by kernel_rfl) (by decide) (fun _ _ _ h => h) (Or.inl ⟨by rfl, ?_⟩) (fun h0 => by assumption) ?_
  rotate_left
  · intro wS
    go_simp
    try with_reducible rfl
  try simp only [Act.put, List.setIfInBounds_toArray, List.set_cons_zero, List.set_cons_succ]
  refine wpAnyL_free (i := 9) (v := ?_) (some 15) rfl rfl (by kernel_rfl) (by kernel_rfl) (by kernel_rfl) (by decide) (fun _ _ _ h => h) (Or.inl ⟨by rfl, ?_⟩) (fun h0 => by assumption) ?_
  rotate_left
  · intro wS
    go_simp
    try with_reducible rfl
  try simp only [Act.put, List.setIfInBounds_toArray, List.set_cons_zero, List.set_cons_succ]
  refine wpAnyL_free (i := 10) (v := ?_) (some 16) rfl rfl (by kernel_rfl) (by kernel_rfl) (by kernel_rfl) (by decide) (fun _ _ _ h => h) (Or.inl ⟨by rfl, ?_⟩) (fun h0 => by assumption) ?_
  rotate_left
  · intro wS
    go_simp
    try with_reducible rfl
  try simp only [Act.put, List.setIfInBounds_toArray, List.set_cons_zero, List.set_cons_succ]
  refine wpAnyL_done (by kernel_rfl) ?_ _
  refine NoPanic.normal ?_
  clear hHeld
  generalize hadr : (if n = d then (some ⟨rb, 0, none⟩ : Option Addr) else some ⟨rb, d, none⟩) = adr
  have HAD : Hid (0 < q → adr = some ⟨rb, d, none⟩) := Lib.hid (fun hq => by rw [← hadr, if_neg (by omega)])
  clear hadr x2 x3
  go_wp2
  go_loop [16] (fun v => ∃ k : Nat, k ≤ q ∧ v = .int .i64 k ∧ ∀ j, d ≤ j → j < d + k → intN (R j) u = 0) (fun v => q - (intOf v).toNat)
  case atStart => exact ⟨0, Nat.zero_le _, rfl, fun j h1 h2 => by omega⟩
  case round =>
    obtain ⟨k, hk, rfl, hz⟩ := hrel
    have HZ := Lib.hid hz
    clear hz
    by_cases hlt : k < q
    · have hkq : (k : Int) < (q : Int) := by omega
      obtain rfl := HAD.out (by omega)
      have e1 := HE.out.rows.at_ (d + k) (by omega)
      have e2 := HE.out.rows.flat.1 (s (d + k) * l + u) (by have := HE.out.rows.fits (i := d + k) (by omega); omega)
      have e3 := HE.out.box.c 1 rfl
      obtain ⟨x, hx⟩ : ∃ x, F (s (d + k) * l + u) = x := ⟨_, rfl⟩
      rw [hx] at e2
      have HX : Hid (intN (R (d + k)) u = x) := Lib.hid (by rw [← HE.out.eq (d + k) (by omega), rowAtF_at hul]; exact hx)
      have hul2 : (u : Int) < (l : Int) := by omega
      clear hx
      by_cases h0 : x = 0
      · have hb : (x != 0) = false := by rw [h0]; rfl
        have HX0 := Lib.hid h0
        clear h0
        go_wp2
        go_round
        case rel =>
          refine ⟨k + 1, by omega, by go_num, fun j h1 h2 => ?_⟩
          by_cases hjk : j = d + k
          · subst hjk; rw [HX.out]; exact HX0.out
          · exact HZ.out j h1 (by omega)
        case measure => simp [intOf]; omega
      · have hb : (x != 0) = true := bne_iff_ne.2 h0
        have HX0 := Lib.hid h0
        clear h0
        have HM2 : Hid (m = ((d + k : Nat) : Int)) := Lib.hid (by
          rcases HM.out with ⟨i, h1, h2, rfl, h4, h5⟩ | ⟨rfl, h5⟩
          · rcases Nat.lt_trichotomy i (d + k) with hl | rfl | hl
            · exact absurd (HZ.out i h1 hl) h4
            · rfl
            · exact absurd (h5 (d + k) (by omega) hl) (by rw [HX.out]; exact HX0.out)
          · exact absurd (h5 (d + k) (by omega) (by omega)) (by rw [HX.out]; exact HX0.out))
        go_wp2
        go_ret2
        exact ⟨.inl ⟨d + k, HM2.out, by omega, by omega, rfl⟩, rfl⟩
    · obtain rfl : k = q := by omega
      have HM2 : Hid (m = -1) := Lib.hid (by
        rcases HM.out with ⟨i, h1, h2, rfl, h4, h5⟩ | ⟨h5, _⟩
        · exact absurd (HZ.out i h1 (by omega)) h4
        · exact h5)
      go_wp2
      go_ret2
      exact ⟨.inr ⟨HM2.out, rfl⟩, rfl⟩

set_option linter.unusedSimpArgs false in
set_option maxHeartbeats 4000000 in
set_option maxRecDepth 100000 in
theorem hasAnswersC (eb rb g n l u d : Nat) (s : Nat → Nat) (p : Int) (F : Nat → Int) (R : Nat → List Int) (b : Bool) (w : World) (h : ElimAt w eb rb g n l u d s p F R) (hul : u < l) (hd : d ≤ n) (hn : n ≤ 1000) (hb : Tells b (¬ ∃ j, d ≤ j ∧ j < n ∧ intN (R j) u ≠ 0)) :
    Calls Try.prog 77 #[.pointer (some ⟨eb, 0, none⟩)] w fun e w' => e = .returned (.bool b) ∧ w' = w.drew := by
  obtain ⟨m, hm⟩ := FalseAt.exists R u d n hd
  have HM := Lib.hid hm
  have HE := Lib.hid h
  have HB := Lib.hid hb
  clear h hm hb
  go_enter Try.func77, Try.ntmps77
  go_wp2_with fail
  refine (contradictionC eb rb g n l u d s p F R m _ HE.out hul hd hn HM.out).mono ?_
  rintro e w2 ⟨hh, rfl⟩
  rcases hh with ⟨i, hi, h1, h2, rfl⟩ | ⟨hi, rfl⟩
  · have HBB : Hid (b = false) := Lib.hid (HB.out.is_false fun k => absurd (HM.out.neg.2 k) (by omega))
    clear hi
    go_wp2
    go_ret
    exact ⟨by rw [HBB.out]; rfl, rfl⟩
  · have HBB : Hid (b = true) := Lib.hid (HB.out.is_true (HM.out.neg.1 (by omega)))
    clear hi
    go_wp2
    go_ret
    exact ⟨by rw [HBB.out]; rfl, rfl⟩

end Go.Proofs.Ytnbgpeoceejolaa
