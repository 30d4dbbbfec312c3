/-
  The laws' marks: markInt64S, markInt64SS, markRel write numbers into memory of their own; heldInt64S, heldInt64SS, heldRel find them again.
-/
import Derived.Test.YtbnmgonfmihicabDoorKept
namespace Go.Proofs.YtbnmgonfmihicabDoor
open Go.RowKit

/-- Of n cells the first k hold F, the others Z. -/
def mix (n k : Nat) (F Z : Nat → Value) : List Value := (List.range n).map fun i => if i < k then F i else Z i
theorem mix_zero (n : Nat) (F Z : Nat → Value) : mix n 0 F Z = (List.range n).map Z := by unfold mix; exact List.map_congr_left fun i _ => by simp
theorem mix_all (n : Nat) (F Z : Nat → Value) : mix n n F Z = (List.range n).map F := by unfold mix; exact List.map_congr_left fun i hi => by rw [if_pos (List.mem_range.1 hi)]
theorem mix_set (n k : Nat) (F Z : Nat → Value) (u : Value) (hu : u = F k) : (mix n k F Z).set k u = mix n (k + 1) F Z := by
  subst hu
  unfold mix
  apply List.ext_getElem?
  intro j
  rw [List.getElem?_set]
  by_cases hj : k = j
  · subst hj
    by_cases h : k < n <;> simp [h]
  · rw [if_neg hj]
    by_cases h : j < n
    · by_cases h1 : j < k
      · simp [h, h1, show j < k + 1 by omega]
      · simp [h, h1, show ¬ j < k + 1 by omega]
    · simp [h]
theorem mix_at (n k j : Nat) (F Z : Nat → Value) (h : j < n) : (mix n k F Z)[j]? = some (if j < k then F j else Z j) := by simp [mix, h]

/-- n numbers from k on. -/
def marks (k : Int) (n : Nat) : List Int := (List.range n).map fun (i : Nat) => k + (i : Int)
theorem marks_length (k : Int) (n : Nat) : (marks k n).length = n := by simp [marks]
theorem marks_at (k : Int) (n i : Nat) (h : i < n) : intN (marks k n) i = k + i := by
  rw [intN_at _ _ (by rw [marks_length]; exact h)]
  simp [marks]

theorem OwnRow.cellAt {w : World} {B : Nat} {g c : Nat} {xs : List Int} (h : OwnRow w B (.slice (some ⟨g, 0, none⟩) xs.length c) xs) (i : Nat) (hi : i < xs.length) : w.cell? ⟨g, i, none⟩ = some (.int .i64 (intN xs i)) := by
  have := World.ownsRow.cellAt h i (by omega)
  rw [this, ints_range]
  simp [hi]

set_option maxHeartbeats 1000000 in
theorem markRow (B : Nat) (v : Value) (xs : List Int) (k0 : Int) (w : World) (h : OwnRow w B v xs) (hk0 : 0 ≤ k0) (hk1 : k0 + xs.length ≤ 1000000000000) :
    Calls Tryd.prog 16 #[v, .int .i64 k0] w fun e w' => e = .returned (.int .i64 (k0 + xs.length)) ∧ OwnRow w' B v (marks k0 xs.length) ∧ Only (fun g => v.ownBlock = some g) w w' := by
  rcases h.rowIn with ⟨rfl, rfl⟩ | ⟨g, c, rfl, hB, hg, hc, hm⟩
  · have HO : Hid (OwnRow w B (.slice none 0 0) (marks k0 ([] : List Int).length)) := h
    have hz : (([] : List Int).length : Int) = 0 := rfl
    rw [hz]
    clear h hk1
    go_enter Tryd.func16, Tryd.ntmps16
    go_wp2
    go_loopw [1, 5] (fun m i wr => i = .int .i64 0 ∧ m = .int .i64 k0 ∧ wr = w) (fun _ _ _ => 0)
    case atStart => exact ⟨rfl, rfl, rfl⟩
    case round =>
      obtain ⟨rfl, rfl, rfl⟩ := hrel
      go_wp2
      go_ret
      exact ⟨ret_int (by omega), HO.out, Only.refl _ _⟩
  · have hown : w.ownsRow B 2 1 (.slice (some ⟨g, 0, none⟩) xs.length c) xs.length (mix xs.length 0 (fun i => .int .i64 (k0 + (i : Int))) (fun i => .int .i64 (intN xs i))) := by
      rw [mix_zero, ← ints_range]
      exact h
    have HO := Lib.hid hown
    have hn : xs.length ≤ 9223372036854775807 := by omega
    clear h hown
    go_enter Tryd.func16, Tryd.ntmps16
    go_wp2
    go_loopw [1, 5] (fun m i wr => ∃ k : Nat, k ≤ xs.length ∧ i = .int .i64 k ∧ m = .int .i64 (k0 + k) ∧ wr.ownsRow B 2 1 (.slice (some ⟨g, 0, none⟩) xs.length c) xs.length (mix xs.length k (fun i => .int .i64 (k0 + (i : Int))) (fun i => .int .i64 (intN xs i))) ∧ Only (fun g' => g' = g) w wr) (fun _ i _ => xs.length - (intOf i).toNat)
    case atStart => exact ⟨0, Nat.zero_le _, rfl, by simp, HO.out, Only.refl _ _⟩
    case round =>
      obtain ⟨k, hk, rfl, rfl, hown, hon⟩ := hrel
      by_cases hlt : k < xs.length
      · have hc2 := hown.cellAt k (by omega)
        rw [mix_at _ _ _ _ _ hlt, if_neg (by omega)] at hc2
        have hf2 := hown.frozenAt k
        have hst := Lib.hid (hown.stored k (.int .i64 (k0 + (k : Int))))
        have hlt' : (k : Int) < (xs.length : Int) := by omega
        have HN := Lib.hid hon
        clear hown hon
        go_wp2
        go_roundw
        case rel => exact ⟨k + 1, by omega, by go_num, by go_num, by have h := hst.out.1; rwa [mix_set _ _ _ _ _ rfl] at h, HN.out.setCell (p := ⟨g, k, none⟩) rfl _⟩
        case measure => simp [intOf]; omega
      · obtain rfl : k = xs.length := by omega
        have HE : Hid (OwnRow wr B (.slice (some ⟨g, 0, none⟩) xs.length c) (marks k0 xs.length)) := by
          rw [mix_all] at hown
          show wr.ownsRow B _ 1 _ _ _
          rw [marks_length]
          unfold marks
          rw [List.map_map]
          exact hown
        have HN := Lib.hid (hon.mono (T := fun g' => (Value.slice (some ⟨g, 0, none⟩) xs.length c).ownBlock = some g') fun k hk => by rw [hk]; rfl)
        clear hown hon
        go_wp2
        go_ret
        exact ⟨rfl, HE.out, HN.out⟩

set_option maxHeartbeats 1000000 in
theorem heldRow (v : Value) (n : Nat) (k0 : Int) (w : World) (h : RowAt w v (marks k0 n)) (hk0 : 0 ≤ k0) (hk1 : k0 + n ≤ 1000000000000) :
    Calls Tryd.prog 66 #[v, .int .i64 k0] w fun e w' => e = .returned (.int .i64 (k0 + n)) ∧ w = w' := by
  obtain ⟨a, c, rfl, hn, hc⟩ := h
  rw [marks_length] at hn hc ⊢
  have HC := Lib.hid hc
  clear hc
  go_enter Tryd.func66, Tryd.ntmps66
  go_wp2
  go_loop [1, 5] (fun m i => ∃ k : Nat, k ≤ n ∧ i = .int .i64 k ∧ m = .int .i64 (k0 + k)) (fun _ i => n - (intOf i).toNat)
  case atStart => exact ⟨0, Nat.zero_le _, rfl, by simp⟩
  case round =>
    obtain ⟨k, hk, rfl, rfl⟩ := hrel
    by_cases hlt : k < n
    · obtain ⟨b1, off1, ha1, hcell1⟩ := HC.out (by omega)
      subst ha1
      have hx1 := hcell1 k hlt
      rw [marks_at k0 n k hlt] at hx1
      have hlt' : (k : Int) < (n : Int) := by omega
      clear hcell1
      go_wp2
      go_round
      case rel => exact ⟨k + 1, by omega, by go_num, by go_num⟩
      case measure => simp [intOf]; omega
    · obtain rfl : k = n := by omega
      go_wp2
      go_ret
      exact ⟨rfl, rfl⟩

/-- One row of an owned grid is written. -/
theorem OwnGridV.step {w w2 : World} {B E n k : Nat} {v : Value} {V : Nat → Value} {f : Nat → List Int} {ys : List Int} (h : OwnGridV w B E v n V f) (hk : k < n) (ho : OwnRow w2 B (V k) ys) (hn : Only (fun g => (V k).ownBlock = some g) w w2) :
    OwnGridV w2 B E v n V (fun i => if i = k then ys else f i) := by
  refine ⟨ownsRow_same h.outer fun g hg => hn.block g (h.outer.lt g hg).2 fun e => h.top_ne k hk g hg e, Nat.le_trans h.le hn.size, h.top, fun i hi => ?_, h.hi, h.apart⟩
  by_cases hik : i = k
  · subst hik
    simpa using ho
  · simp only [hik, if_false]
    refine (h.rows i hi).only hn fun g hg e => ?_
    rcases Nat.lt_or_gt_of_ne hik with h1 | h1
    · exact h.apart i k h1 hk g hg e
    · exact h.apart k i h1 hi g e hg

theorem OwnGridV.congr {w : World} {B E n : Nat} {v : Value} {V : Nat → Value} {f f' : Nat → List Int} (h : OwnGridV w B E v n V f) (hf : ∀ i, i < n → f i = f' i) : OwnGridV w B E v n V f' :=
  ⟨h.outer, h.le, h.top, fun i hi => hf i hi ▸ h.rows i hi, h.hi, h.apart⟩

/-- The marks of a grid's rows. -/
def marksG (k0 : Int) (xss : List (List Int)) : List (List Int) := (List.range xss.length).map fun (i : Nat) => marks (k0 + (partSum xss i : Int)) (rowN xss i).length
theorem marksG_length (k0 : Int) (xss : List (List Int)) : (marksG k0 xss).length = xss.length := by simp [marksG]
theorem marksG_at (k0 : Int) (xss : List (List Int)) (i : Nat) (h : i < xss.length) : rowN (marksG k0 xss) i = marks (k0 + (partSum xss i : Int)) (rowN xss i).length := by
  rw [rowN_at _ _ (by rw [marksG_length]; exact h)]
  simp [marksG]

theorem OwnGridV.cellAt {w : World} {B E n c g : Nat} {V : Nat → Value} {f : Nat → List Int} (h : OwnGridV w B E (.slice (some ⟨g, 0, none⟩) n c) n V f) (i : Nat) (hi : i < n) : w.cell? ⟨g, i, none⟩ = some (V i) := by
  rw [h.outer.cellAt i (by omega)]
  exact range_map_at hi

set_option maxHeartbeats 1000000 in
theorem markGrid (B E : Nat) (v : Value) (xss : List (List Int)) (k0 : Int) (w : World) (h : OwnGrid w B E v xss) (hk0 : 0 ≤ k0) (hk1 : k0 + (xss.map List.length).sum ≤ 1000000000000) :
    Calls Tryd.prog 43 #[v, .int .i64 k0] w fun e w' => e = .returned (.int .i64 (k0 + (xss.map List.length).sum)) ∧ OwnGrid w' B E v (marksG k0 xss) ∧ Only (fun g => B ≤ g ∧ g < E) w w' := by
  obtain ⟨V, h⟩ := h
  have hall := partSum_all xss
  rcases ownsRow_parts h.outer with ⟨rfl, hn, _⟩ | ⟨g, c, rfl, hB, hg, hc, hm, _, _⟩
  · obtain rfl : xss = [] := by simpa using hn
    have HO : Hid (OwnGrid w B E (.slice none 0 0) (marksG k0 ([] : List (List Int)))) := OwnGrid.nil w B E h.le
    clear h
    go_enter Tryd.func43, Tryd.ntmps43
    go_wp2
    go_loopw [1, 5] (fun m i wr => i = .int .i64 0 ∧ m = .int .i64 k0 ∧ wr = w) (fun _ _ _ => 0)
    case atStart => exact ⟨rfl, rfl, rfl⟩
    case round =>
      obtain ⟨rfl, rfl, rfl⟩ := hrel
      go_wp2
      go_ret
      exact ⟨by simp, HO.out, Only.refl _ _⟩
  · have HO := Lib.hid h
    have hn : xss.length ≤ 9223372036854775807 := by unfold maxLen at hm; omega
    clear h
    go_enter Tryd.func43, Tryd.ntmps43
    go_wp2
    go_loopw [1, 5] (fun m i wr => ∃ k : Nat, k ≤ xss.length ∧ i = .int .i64 k ∧ m = .int .i64 (k0 + (partSum xss k : Int)) ∧ OwnGridV wr B E (.slice (some ⟨g, 0, none⟩) xss.length c) xss.length V (fun i => if i < k then marks (k0 + (partSum xss i : Int)) (rowN xss i).length else rowN xss i) ∧ Only (fun g => B ≤ g ∧ g < E) w wr) (fun _ i _ => xss.length - (intOf i).toNat)
    case atStart => exact ⟨0, Nat.zero_le _, rfl, by rw [partSum_zero]; simp, HO.out.congr fun i _ => by simp, Only.refl _ _⟩
    case round =>
      obtain ⟨k, hk, rfl, rfl, hown, hon⟩ := hrel
      by_cases hlt : k < xss.length
      · have hc2 := hown.cellAt k hlt
        have hr := hown.rows k hlt
        simp only [Nat.lt_irrefl, if_false] at hr
        have HR := Lib.hid hr
        have hs := Lib.hid (partSum_succ xss k hlt)
        have hle := partSum_le xss (k + 1)
        have hle2 : k0 + (partSum xss k : Int) + ((rowN xss k).length : Int) ≤ 1000000000000 := by have := hs.out; omega
        have hlt' : (k : Int) < (xss.length : Int) := by omega
        have HW := Lib.hid hown
        have HN := Lib.hid hon
        clear hown hon hr
        go_wp2_with fail
        refine (markRow B _ _ _ _ HR.out (by omega) hle2).mono ?_
        rintro e w2 ⟨rfl, ho2, hn2⟩
        have HS := Lib.hid (HW.out.step hlt ho2 hn2)
        have HN2 := Lib.hid (HN.out.trans (hn2.mono fun g' hg' => ⟨((HW.out.rows k hlt).lt g' hg').1, HW.out.hi k hlt g' hg'⟩))
        clear ho2 hn2
        go_wp2
        go_roundw
        case rel =>
          refine ⟨k + 1, by omega, by go_num, by rw [hs.out]; go_num, HS.out.congr fun i hi => ?_, HN2.out⟩
          by_cases hik : i = k
          · subst hik; simp
          · by_cases h1 : i < k
            · simp [hik, h1, show i < k + 1 by omega]
            · simp [hik, h1, show ¬ i < k + 1 by omega]
        case measure => simp [intOf]; omega
      · obtain rfl : k = xss.length := by omega
        have HE : Hid (OwnGrid wr B E (.slice (some ⟨g, 0, none⟩) xss.length c) (marksG k0 xss)) := by
          refine ⟨V, ?_⟩
          rw [marksG_length]
          exact hown.congr fun i hi => by rw [if_pos hi, marksG_at k0 xss i hi]
        have HN := Lib.hid hon
        clear hown hon
        go_wp2
        go_ret
        exact ⟨ret_int (by rw [hall]), HE.out, HN.out⟩

set_option maxHeartbeats 1000000 in
theorem heldGrid (v : Value) (xss : List (List Int)) (k0 : Int) (w : World) (h : GridAt w v (marksG k0 xss)) (hk0 : 0 ≤ k0) (hk1 : k0 + (xss.map List.length).sum ≤ 1000000000000) :
    Calls Tryd.prog 44 #[v, .int .i64 k0] w fun e w' => e = .returned (.int .i64 (k0 + (xss.map List.length).sum)) ∧ w = w' := by
  have hall := partSum_all xss
  obtain ⟨V, ⟨a, c, rfl, hn, hc⟩, hV⟩ := h
  rw [marksG_length] at hn hc hV ⊢
  have HC := Lib.hid hc
  have HV := Lib.hid hV
  clear hc hV
  go_enter Tryd.func44, Tryd.ntmps44
  go_wp2
  go_loop [1, 5] (fun m i => ∃ k : Nat, k ≤ xss.length ∧ i = .int .i64 k ∧ m = .int .i64 (k0 + (partSum xss k : Int))) (fun _ i => xss.length - (intOf i).toNat)
  case atStart => exact ⟨0, Nat.zero_le _, rfl, by rw [partSum_zero]; simp⟩
  case round =>
    obtain ⟨k, hk, rfl, rfl⟩ := hrel
    by_cases hlt : k < xss.length
    · obtain ⟨b1, off1, ha1, hcell1⟩ := HC.out (by omega)
      subst ha1
      have hx1 := hcell1 k hlt
      have hr := HV.out k hlt
      rw [marksG_at k0 xss k hlt] at hr
      have HR := Lib.hid hr
      have hs := Lib.hid (partSum_succ xss k hlt)
      have hle := partSum_le xss (k + 1)
      have hle2 : k0 + (partSum xss k : Int) + ((rowN xss k).length : Int) ≤ 1000000000000 := by have := hs.out; omega
      have hpos : ¬ (k0 + (partSum xss k : Int) + ((rowN xss k).length : Int) < 0) := by omega
      have hlt' : (k : Int) < (xss.length : Int) := by omega
      clear hcell1 hr
      go_wp2_with fail
      refine (heldRow _ _ _ _ HR.out (by omega) hle2).mono ?_
      rintro e w2 ⟨rfl, rfl⟩
      go_wp2
      go_round
      case rel => exact ⟨k + 1, by omega, by go_num, by rw [hs.out]; go_num⟩
      case measure => simp [intOf]; omega
    · obtain rfl : k = xss.length := by omega
      go_wp2
      go_ret
      exact ⟨rfl, rfl⟩

set_option maxHeartbeats 1000000 in
theorem markRel (B E : Nat) (ar : Int) (a : Option Addr) (n c : Nat) (xss : List (List Int)) (k0 : Int) (w : World) (h : OwnGrid w B E (.slice a n c) xss) (hk0 : 0 ≤ k0) (hk1 : k0 + (xss.map List.length).sum ≤ 1000000000000) :
    Calls Tryd.prog 15 #[.agg #[.int .i64 ar, .slice a n c], .int .i64 k0] w fun e w' => e = .returned (.int .i64 (k0 + (xss.map List.length).sum)) ∧ OwnGrid w' B E (.slice a n c) (marksG k0 xss) ∧ Only (fun g => B ≤ g ∧ g < E) w w' := by
  have hbw : Below w.heap.size w (w.alloc (.cells #[.int .i64 ar, .slice a n c] 27)) := (Below.refl _ _).alloc (Nat.le_refl _) _
  have H := Lib.hid (h.below hbw)
  have HN : Hid (Only (fun g => B ≤ g ∧ g < E) w (w.alloc (.cells #[.int .i64 ar, .slice a n c] 27))) := ⟨rfl, rfl, rfl, by simp, fun k hk _ => Below.heap_alloc _ _ _ hk⟩
  clear h hbw
  go_enter Tryd.func15, Tryd.ntmps15
  go_wp2_with fail
  refine (markGrid B E _ _ _ _ H.out hk0 hk1).mono ?_
  rintro e w2 ⟨rfl, ho2, hn2⟩
  have HO := Lib.hid ho2
  have HN2 := Lib.hid (HN.out.trans hn2)
  clear ho2 hn2
  go_wp2
  go_ret
  exact ⟨rfl, HO.out, HN2.out⟩

set_option maxHeartbeats 1000000 in
theorem heldRel (ar : Int) (a : Option Addr) (n c : Nat) (xss : List (List Int)) (k0 : Int) (w : World) (h : GridAt w (.slice a n c) (marksG k0 xss)) (hk0 : 0 ≤ k0) (hk1 : k0 + (xss.map List.length).sum ≤ 1000000000000) :
    Calls Tryd.prog 17 #[.agg #[.int .i64 ar, .slice a n c], .int .i64 k0] w fun e w' => e = .returned (.int .i64 (k0 + (xss.map List.length).sum)) ∧ Below w.heap.size w w' := by
  have hbw : Below w.heap.size w (w.alloc (.cells #[.int .i64 ar, .slice a n c] 27)) := (Below.refl _ _).alloc (Nat.le_refl _) _
  have H := Lib.hid (h.below hbw)
  have HW := Lib.hid hbw
  have hpos : ¬ (k0 + ((xss.map List.length).sum : Int) < 0) := by omega
  clear h hbw
  go_enter Tryd.func17, Tryd.ntmps17
  go_wp2_with fail
  refine (heldGrid _ _ _ _ H.out hk0 hk1).mono ?_
  rintro e w2 ⟨rfl, rfl⟩
  go_wp2
  go_ret
  exact ⟨rfl, HW.out⟩

end Go.Proofs.YtbnmgonfmihicabDoor
