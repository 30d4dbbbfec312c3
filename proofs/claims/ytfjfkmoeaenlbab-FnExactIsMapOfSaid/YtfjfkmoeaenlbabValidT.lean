/-
  Valid templates: l01Template and ValidTemplate of the model, ValidTemplate of the program.
-/
import Derived.Test.YtfjfkmoeaenlbabRels2
import Derived.Test.YtfjfkmoeaenlbabValidRel
namespace Go.Proofs.Ytfjfkmoeaenlbab
open Go.RowKit

def TplOk (sz : Int) (rs : List (Int × List (List Int))) : Prop := In14 sz ∧ rs.length ≤ 6 ∧ ∀ k, k < rs.length → RelOk sz (arN rs k) (gridN rs k)

structure TplAt (w : World) (b o : Nat) (sz : Int) (rs : List (Int × List (List Int))) : Prop where
  size : w.cell? ⟨b, o, none⟩ = some (.int .i64 sz)
  rels : ∃ a n c, w.cell? ⟨b, o + 1, none⟩ = some (.slice a n c) ∧ RelsAt w (.slice a n c) rs

theorem TplAt.below {w w' : World} {b o : Nat} {sz : Int} {rs : List (Int × List (List Int))} (h : TplAt w b o sz rs) (hb : Below w.heap.size w w') : TplAt w' b o sz rs := by
  obtain ⟨h1, a, n, c, h2, h3⟩ := h
  exact ⟨below_cell hb h1, a, n, c, below_cell hb h2, h3.below hb⟩

theorem RelAt.qw {w w' : World} {b o : Nat} {ar : Int} {xss : List (List Int)} (h : RelAt w b o ar xss) (hq : QW w w') : RelAt w' b o ar xss := h.below hq.bel

set_option maxHeartbeats 1000000 in
set_option maxRecDepth 100000 in
theorem l01Template (pb po : Nat) (sz : Int) (rs : List (Int × List (List Int))) (b : Bool) (w : World) (h : TplAt w pb po sz rs) (hb : Tells b (TplOk sz rs)) :
    Calls Try.prog 32 #[.pointer (some ⟨pb, po, none⟩)] w fun e w' => e = .returned (.bool b) ∧ QW w w' := by
  obtain ⟨hp0, a, n, c, hp1, a', c', hv, hn, hc⟩ := h
  simp only [Value.slice.injEq] at hv
  obtain ⟨rfl, rfl, rfl⟩ := hv
  have HC := Lib.hid hc
  have HB := Lib.hid hb
  clear hc hb
  go_enter Try.func32, Try.ntmps32
  go_wp2
  go_loopw [3] (fun i wr => ∃ k : Nat, k ≤ rs.length ∧ i = .int .i64 k ∧ (∀ j, j < k → RelOk sz (arN rs j) (gridN rs j)) ∧ QW w wr) (fun i _ => rs.length - (intOf i).toNat)
  case atStart => exact ⟨0, Nat.zero_le _, rfl, fun j hj => absurd hj (Nat.not_lt_zero _), QW.refl _⟩
  case round =>
    obtain ⟨k, hk, rfl, hall, hq⟩ := hrel
    have HA := Lib.hid hall
    have HQ := Lib.hid hq
    have hq0 := HQ.out.cell hp0
    have hq1 := HQ.out.cell hp1
    clear hall hq
    by_cases hlt : k < rs.length
    · obtain ⟨b1, off1, ha1, hcell1⟩ := HC.out (by omega)
      subst ha1
      have HR := Lib.hid (hcell1 k hlt)
      have hlt' : (k : Int) < (rs.length : Int) := by omega
      clear hcell1
      by_cases ht : RelOk sz (arN rs k) (gridN rs k)
      · have HT := Lib.hid (Tells.yes ht)
        have HTP := Lib.hid ht
        clear ht
        go_wp2
        go_quiet ((go_at_call 47; exact QW.calls (l01Ok _ _ _ _ _ true _ (HR.out.qw (HQ.out.drewN _)) HT.out)))
        go_wp2
        go_roundw
        case rel =>
          refine ⟨k + 1, by omega, by go_num, fun j hj => ?_, HQ.out.drewN _⟩
          by_cases hjk : j = k
          · subst hjk; exact HTP.out
          · exact HA.out j (by omega)
        case measure => simp [intOf]; omega
      · have HT := Lib.hid (Tells.no ht)
        have HF := Lib.hid (HB.out.is_false fun h => ht (h.2.2 k hlt))
        clear ht
        go_wp2
        go_quiet ((go_at_call 47; exact QW.calls (l01Ok _ _ _ _ _ false _ (HR.out.qw (HQ.out.drewN _)) HT.out)))
        go_wp2
        go_ret
        exact ⟨ret_bool HF.out.symm, HQ.out.drewN _⟩
    · obtain rfl : k = rs.length := by omega
      by_cases hs : In14 sz
      · have HS := Lib.hid (Tells.yes hs)
        by_cases h6 : rs.length ≤ 6
        · have HF := Lib.hid (HB.out.is_true ⟨hs, h6, HA.out⟩)
          have h6' : (rs.length : Int) ≤ 6 := by omega
          clear hs
          go_wp2_with (go_at_call 48; refine (l01Size _ true _ HS.out).mono ?_; rintro e w' ⟨rfl, rfl⟩)
          go_ret
          exact ⟨ret_bool (by first | exact HF.out.symm | simp [HF.out, h6']), HQ.out⟩
        · have HF := Lib.hid (HB.out.is_false fun h => h6 h.2.1)
          have h6' : (6 : Int) < (rs.length : Int) := by omega
          clear hs
          go_wp2_with (go_at_call 48; refine (l01Size _ true _ HS.out).mono ?_; rintro e w' ⟨rfl, rfl⟩)
          go_ret
          exact ⟨ret_bool (by first | exact HF.out.symm | simp [HF.out, h6']), HQ.out⟩
      · have HS := Lib.hid (Tells.no hs)
        have HF := Lib.hid (HB.out.is_false fun h => hs h.1)
        clear hs
        go_wp2_with (go_at_call 48; refine (l01Size _ false _ HS.out).mono ?_; rintro e w' ⟨rfl, rfl⟩)
        go_ret
        exact ⟨ret_bool HF.out.symm, HQ.out⟩

set_option maxHeartbeats 1000000 in
set_option maxRecDepth 100000 in
theorem implValidTemplate (sz : Int) (a : Option Addr) (n c : Nat) (rs : List (Int × List (List Int))) (b : Bool) (w : World) (h : RelsAt w (.slice a n c) rs) (hb : Tells b (TplOk sz rs)) :
    Calls Try.prog 37 #[.agg #[.int .i64 sz, .slice a n c]] w fun e w' => e = .returned (.bool b) ∧ Below w.heap.size w w' := by
  have HBW := Lib.hid ((Below.refl w.heap.size w).alloc (Nat.le_refl _) (.cells #[.int .i64 sz, .slice a n c] 31))
  have H := Lib.hid (h.below HBW.out)
  have HB := Lib.hid hb
  clear h hb
  obtain ⟨a', c', hv, hn, hc⟩ := H.out
  clear H
  simp only [Value.slice.injEq] at hv
  obtain ⟨rfl, rfl, rfl⟩ := hv
  have HC := Lib.hid hc
  clear hc
  by_cases hs : In14 sz
  · by_cases h6 : rs.length ≤ 6
    · have HS := Lib.hid (Tells.yes hs)
      have HSP := Lib.hid hs
      have h6' : ¬ (6 : Int) < (rs.length : Int) := by omega
      clear hs
      have k0 : (w.alloc (.cells #[.int .i64 sz, .slice a rs.length c] 31)).cell? ⟨w.heap.size, 0, none⟩ = some (.int .i64 sz) := by simp
      have hz0 : (w.alloc (.cells #[.int .i64 sz, .slice a rs.length c] 31)).heap.size = w.heap.size + 1 := by simp
      go_enter Try.func37, Try.ntmps37
      go_wp2_with (go_at_call 51; refine (isSize _ true _ HS.out).mono ?_; rintro e w' ⟨rfl, rfl⟩)
      go_loopw [4, 18] (fun _ i wr => ∃ k : Nat, k ≤ rs.length ∧ i = .int .i64 k ∧ (∀ j, j < k → RelOk sz (arN rs j) (gridN rs j)) ∧ Below (w.alloc (.cells #[.int .i64 sz, .slice a rs.length c] 31)).heap.size (w.alloc (.cells #[.int .i64 sz, .slice a rs.length c] 31)) wr) (fun _ i _ => rs.length - (intOf i).toNat)
      case atStart => exact ⟨0, Nat.zero_le _, rfl, fun j hj => absurd hj (Nat.not_lt_zero _), Below.refl _ _⟩
      case round =>
        obtain ⟨k, hk, rfl, hall, hb⟩ := hrel
        have HA := Lib.hid hall
        have HBR := Lib.hid hb
        have k1 := below_cell HBR.out k0
        have hsz := HBR.out.size
        clear hall hb
        rw [hz0] at hsz
        by_cases hlt : k < rs.length
        · obtain ⟨b1, off1, ha1, hcell1⟩ := HC.out (by omega)
          subst ha1
          obtain ⟨hx0, a1, n1, c1, hx1, hg1⟩ := (hcell1 k hlt).below HBR.out
          have HG := Lib.hid hg1
          have hlt' : (k : Int) < (rs.length : Int) := by omega
          have HBA := Lib.hid ((Below.refl wr.heap.size wr).alloc (Nat.le_refl _) (.cells #[.int .i64 (arN rs k), .slice a1 n1 c1] 63))
          have k2 := below_cell HBA.out k1
          have hne : w.heap.size ≠ wr.heap.size := by omega
          have hne2 : ¬ wr.heap.size = w.heap.size := by omega
          clear hcell1 hg1
          by_cases ht : RelOk sz (arN rs k) (gridN rs k)
          · have HT := Lib.hid (Tells.yes ht)
            have HTP := Lib.hid ht
            clear ht
            go_wp2_with fail
            refine (implValidRel _ _ _ _ _ _ true _ (HG.out.below HBA.out) HT.out).mono ?_
            rintro e w2 ⟨rfl, hb2⟩
            have HB2 := Lib.hid (HBR.out.trans ((HBA.out.trans (hb2.mono HBA.out.size)).mono HBR.out.size))
            clear hb2
            go_wp2
            go_roundw
            case rel =>
              refine ⟨k + 1, by omega, by go_num, fun j hj => ?_, HB2.out⟩
              by_cases hjk : j = k
              · subst hjk; exact HTP.out
              · exact HA.out j (by omega)
            case measure => simp [intOf]; omega
          · have HT := Lib.hid (Tells.no ht)
            have HF := Lib.hid (HB.out.is_false fun h => ht (h.2.2 k hlt))
            clear ht
            go_wp2_with fail
            refine (implValidRel _ _ _ _ _ _ false _ (HG.out.below HBA.out) HT.out).mono ?_
            rintro e w2 ⟨rfl, hb2⟩
            have HB2 := Lib.hid (HBR.out.trans ((HBA.out.trans (hb2.mono HBA.out.size)).mono HBR.out.size))
            clear hb2
            go_wp2
            go_ret
            exact ⟨ret_bool HF.out.symm, HBW.out.trans (HB2.out.mono (by simp))⟩
        · obtain rfl : k = rs.length := by omega
          have HF := Lib.hid (HB.out.is_true ⟨HSP.out, h6, HA.out⟩)
          go_wp2
          go_ret
          exact ⟨ret_bool HF.out.symm, HBW.out.trans (HBR.out.mono (by simp))⟩
    · have HS := Lib.hid (Tells.yes hs)
      have HF := Lib.hid (HB.out.is_false fun h => h6 h.2.1)
      have h6' : (6 : Int) < (rs.length : Int) := by omega
      clear hs
      go_enter Try.func37, Try.ntmps37
      go_wp2_with (go_at_call 51; refine (isSize _ true _ HS.out).mono ?_; rintro e w' ⟨rfl, rfl⟩)
      go_ret
      exact ⟨ret_bool HF.out.symm, HBW.out⟩
  · have HS := Lib.hid (Tells.no hs)
    have HF := Lib.hid (HB.out.is_false fun h => hs h.1)
    clear hs
    go_enter Try.func37, Try.ntmps37
    go_wp2_with (go_at_call 51; refine (isSize _ false _ HS.out).mono ?_; rintro e w' ⟨rfl, rfl⟩)
    go_ret
    exact ⟨ret_bool HF.out.symm, HBW.out⟩

end Go.Proofs.Ytfjfkmoeaenlbab
