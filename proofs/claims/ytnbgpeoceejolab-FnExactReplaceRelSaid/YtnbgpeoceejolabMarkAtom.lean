/-
  The laws' marks of lists: markAtomS, heldAtomS.
-/
import Derived.Test.YtnbgpeoceejolabMarkO
namespace Go.Proofs.Ytnbgpeoceejolab
open Go.RowKit

set_option maxHeartbeats 1000000 in
theorem markAtomS (B E : Nat) (v : Value) (rs : List (Int × List Int)) (k0 : Int) (w : World) (h : OwnOps 83 w B E v rs) (hk0 : 0 ≤ k0) (hk1 : k0 + opsSize rs ≤ 1000000000000) :
    Calls Try.prog 41 #[v, .int .i64 k0] w fun e w' => e = .returned (.int .i64 (k0 + opsSize rs)) ∧ OwnOps 83 w' B E v (marksO k0 rs) ∧ Only (fun g => B ≤ g ∧ g < E) w w' := by
  obtain ⟨V, h⟩ := h
  have hall := offO_all rs
  have h' := h
  obtain ⟨xs, hx0, _⟩ := h'.outer
  rcases ownsRow2_parts hx0 with ⟨rfl, hn, _⟩ | ⟨g, c, rfl, hB, hg, hc, hm, _⟩
  · obtain rfl : rs = [] := List.length_eq_zero_iff.1 hn
    have HO : Hid (OwnOps 83 w B E (.slice none 0 0) (marksO k0 ([] : List (Int × List Int)))) := OwnOps.nil _ w B E h.le
    clear h h' hx0
    go_enter Try.func41, Try.ntmps41
    go_wp2
    go_loopw [1, 5] (fun m i wr => i = .int .i64 0 ∧ m = .int .i64 k0 ∧ wr = w) (fun _ _ _ => 0)
    case atStart => exact ⟨rfl, rfl, rfl⟩
    case round =>
      obtain ⟨rfl, rfl, rfl⟩ := hrel
      go_wp2
      go_ret
      exact ⟨ret_int (by simp [opsSize, partO]), HO.out, Only.refl _ _⟩
  · have HO := Lib.hid h.pairs
    have hgE := h.top g rfl
    have hgB := (hx0.lt g rfl).1
    have hn : rs.length ≤ 9223372036854775807 := by unfold maxLen at hm; omega
    clear h h' hx0
    go_enter Try.func41, Try.ntmps41
    go_wp2
    go_loopw [1, 5] (fun m i wr => ∃ k : Nat, k ≤ rs.length ∧ i = .int .i64 k ∧ m = .int .i64 (k0 + (offO rs k : Int)) ∧ OwnPairs 83 wr B E (.slice (some ⟨g, 0, none⟩) rs.length c) rs.length V (fun i => if i < k then k0 + (offO rs i : Int) else arO rs i) (fun i => if i < k then marks (k0 + (offO rs i : Int) + 1) (rowO rs i).length else rowO rs i) ∧ Only (fun g => B ≤ g ∧ g < E) w wr) (fun _ i _ => rs.length - (intOf i).toNat)
    case atStart => exact ⟨0, Nat.zero_le _, rfl, by rw [offO_zero]; simp, HO.out.congr (fun i _ => by simp) (fun i _ => by simp), Only.refl _ _⟩
    case round =>
      obtain ⟨k, hk, rfl, rfl, hown, hon⟩ := hrel
      by_cases hlt : k < rs.length
      · have hset := hown.setAr k hlt (k0 + (offO rs k : Int))
        have hc0 := hown.cell0 k hlt
        simp only [Nat.lt_irrefl, if_false] at hc0
        have hf0 := hown.free (k * 2)
        have hc1 := hset.cell1 k hlt
        have hr := hset.rows k hlt
        simp only [Nat.lt_irrefl, if_false] at hr
        have HR := Lib.hid hr
        have hs := Lib.hid (offO_succ rs k)
        have hle := offO_le rs (i := k + 1) (by omega)
        have hle2 : k0 + (offO rs k : Int) + 1 + ((rowO rs k).length : Int) ≤ 1000000000000 := by have := hs.out; omega
        have hlt' : (k : Int) < (rs.length : Int) := by omega
        have HW := Lib.hid hset
        have HN := Lib.hid (hon.setCell (p := ⟨g, k * 2, none⟩) (show B ≤ g ∧ g < E from ⟨hgB, hgE⟩) (.int .i64 (k0 + (offO rs k : Int))))
        clear hown hon hr hset
        go_wp2_with fail
        refine (markRow B _ _ _ _ HR.out (by omega) hle2).mono ?_
        rintro e w2 ⟨rfl, ho2, hn2⟩
        have HS := Lib.hid (HW.out.setRow hlt ho2 hn2)
        have HN2 := Lib.hid (HN.out.trans (hn2.mono fun g' hg' => ⟨((HW.out.rows k hlt).lt g' hg').1, HW.out.hi k hlt g' hg'⟩))
        clear ho2 hn2
        go_wp2
        go_roundw
        case rel =>
          refine ⟨k + 1, by omega, by go_num, by rw [hs.out]; go_num, HS.out.congr (fun i hi => ?_) (fun i hi => ?_), HN2.out⟩
          · by_cases hik : i = k
            · subst hik; simp
            · by_cases h1 : i < k
              · simp [hik, h1, show i < k + 1 by omega]
              · simp [hik, h1, show ¬ i < k + 1 by omega]
          · by_cases hik : i = k
            · subst hik; simp
            · by_cases h1 : i < k
              · simp [hik, h1, show i < k + 1 by omega]
              · simp [hik, h1, show ¬ i < k + 1 by omega]
        case measure => simp [intOf]; omega
      · obtain rfl : k = rs.length := by omega
        have HE : Hid (OwnOps 83 wr B E (.slice (some ⟨g, 0, none⟩) rs.length c) (marksO k0 rs)) := by
          refine ⟨V, ?_⟩
          rw [marksO_length]
          exact hown.ops (fun i hi => by rw [if_pos hi, marksO_ar k0 rs i hi]) (fun i hi => by rw [if_pos hi, marksO_row k0 rs i hi])
        have HN := Lib.hid hon
        clear hown hon
        go_wp2
        go_ret
        exact ⟨ret_int (by first | rfl | rw [hall]), HE.out, HN.out⟩

set_option maxHeartbeats 1000000 in
theorem heldAtomS (v : Value) (rs : List (Int × List Int)) (k0 : Int) (w : World) (h : OpsAt w v (marksO k0 rs)) (hk0 : 0 ≤ k0) (hk1 : k0 + opsSize rs ≤ 1000000000000) :
    Calls Try.prog 42 #[v, .int .i64 k0] w fun e w' => e = .returned (.int .i64 (k0 + opsSize rs)) ∧ w = w' := by
  have hall := offO_all rs
  obtain ⟨a, c, rfl, hn, hc⟩ := h
  rw [marksO_length] at hn hc ⊢
  have HC := Lib.hid hc
  clear hc
  go_enter Try.func42, Try.ntmps42
  go_wp2
  go_loop [1, 5] (fun m i => ∃ k : Nat, k ≤ rs.length ∧ i = .int .i64 k ∧ m = .int .i64 (k0 + (offO rs k : Int))) (fun _ i => rs.length - (intOf i).toNat)
  case atStart => exact ⟨0, Nat.zero_le _, rfl, by rw [offO_zero]; simp⟩
  case round =>
    obtain ⟨k, hk, rfl, rfl⟩ := hrel
    by_cases hlt : k < rs.length
    · obtain ⟨b1, off1, ha1, hcell1⟩ := HC.out (by omega)
      subst ha1
      obtain ⟨hx0, a2, n2, c2, hx1, hr⟩ := hcell1 k hlt
      rw [marksO_ar k0 rs k hlt] at hx0
      rw [marksO_row k0 rs k hlt] at hr
      have HR := Lib.hid hr
      have hs := Lib.hid (offO_succ rs k)
      have hle := offO_le rs (i := k + 1) (by omega)
      have hle2 : k0 + (offO rs k : Int) + 1 + ((rowO rs k).length : Int) ≤ 1000000000000 := by have := hs.out; omega
      have hpos : ¬ (k0 + (offO rs k : Int) + 1 + ((rowO rs k).length : Int) < 0) := by omega
      have hlt' : (k : Int) < (rs.length : Int) := by omega
      clear hcell1 hr
      go_wp2_with fail
      refine (heldRow _ _ _ _ HR.out (by omega) hle2).mono ?_
      rintro e w2 ⟨rfl, rfl⟩
      go_wp2
      go_round
      case rel => exact ⟨k + 1, by omega, by go_num, by rw [hs.out]; go_num⟩
      case measure => simp [intOf]; omega
    · obtain rfl : k = rs.length := by omega
      go_wp2
      go_ret
      exact ⟨ret_int (by first | rfl | rw [hall]), rfl⟩

end Go.Proofs.Ytnbgpeoceejolab
