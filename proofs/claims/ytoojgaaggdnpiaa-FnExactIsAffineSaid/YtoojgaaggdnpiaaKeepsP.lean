/-
  Keeps of the program.
-/
import Derived.Test.YtoojgaaggdnpiaaGFind
import Derived.Test.YtoojgaaggdnpiaaGKeepS
namespace Go.Proofs.Ytoojgaaggdnpiaa
open Go.RowKit

theorem FindIs.tells {s ar q : Nat} {tab : List Int} {rs : List (List Int)} {b : Bool} {is : List Nat} {mv : Int} (h : FindIs s ar q tab rs b is mv) : Tells b (Brk s ar q tab rs) := by
  rcases h with ⟨rfl, h⟩ | ⟨rfl, j, h, _⟩
  · exact Tells.no fun ⟨j, hj, hb⟩ => h j hj hb
  · exact Tells.yes ⟨j, h.1, h.2.1⟩

set_option linter.unusedSimpArgs false in
set_option maxHeartbeats 4000000 in
set_option maxRecDepth 100000 in
theorem implKeeps (size ar : Int) (a : Option Addr) (n c : Nat) (tab : List Int) (q : Int) (a2 : Option Addr) (n2 c2 : Nat) (rs : List (List Int)) (b : Bool) (cd : Int) (w : World) (h : RowAt w (.slice a n c) tab) (hr : GridAt w (.slice a2 n2 c2) rs) (hi : KeepsIs size ar tab q rs b cd) :
    Calls Try.prog 20 #[.int .i64 size, .agg #[.int .i64 ar, .slice a n c], .agg #[.int .i64 q, .slice a2 n2 c2]] w fun e w' => e = .returned (.tuple #[.bool b, .int .i64 cd]) ∧ Below w.heap.size w w' := by
  have HW2 : Hid (Below w.heap.size w ((w.alloc (.cells #[.int .i64 ar, .slice a n c] 32)).alloc (.cells #[.int .i64 q, .slice a2 n2 c2] 34))) := Lib.hid (((Below.refl _ _).alloc (Nat.le_refl _) _).alloc (by simp) _)
  have b0 : Box 32 ((w.alloc (.cells #[.int .i64 ar, .slice a n c] 32)).alloc (.cells #[.int .i64 q, .slice a2 n2 c2] 34)) w.heap.size #[.int .i64 ar, .slice a n c] := (Box.new _ _ _).below ((Below.refl _ _).alloc (Nat.le_refl _) _)
  have b1 : Box 34 ((w.alloc (.cells #[.int .i64 ar, .slice a n c] 32)).alloc (.cells #[.int .i64 q, .slice a2 n2 c2] 34)) (w.heap.size + 1) #[.int .i64 q, .slice a2 n2 c2] := by
    have h := Box.new 34 (w.alloc (.cells #[.int .i64 ar, .slice a n c] 32)) #[.int .i64 q, .slice a2 n2 c2]
    rwa [World.size_alloc] at h
  have d0 : ((w.alloc (.cells #[.int .i64 ar, .slice a n c] 32)).alloc (.cells #[.int .i64 q, .slice a2 n2 c2] 34)).cell? ⟨w.heap.size, 0, none⟩ = some (.int .i64 ar) := b0.c 0 rfl
  have d1 : ((w.alloc (.cells #[.int .i64 ar, .slice a n c] 32)).alloc (.cells #[.int .i64 q, .slice a2 n2 c2] 34)).cell? ⟨w.heap.size, 1, none⟩ = some (.slice a n c) := b0.c 1 rfl
  have d2 : ((w.alloc (.cells #[.int .i64 ar, .slice a n c] 32)).alloc (.cells #[.int .i64 q, .slice a2 n2 c2] 34)).cell? ⟨w.heap.size + 1, 0, none⟩ = some (.int .i64 q) := b1.c 0 rfl
  have d3 : ((w.alloc (.cells #[.int .i64 ar, .slice a n c] 32)).alloc (.cells #[.int .i64 q, .slice a2 n2 c2] 34)).cell? ⟨w.heap.size + 1, 1, none⟩ = some (.slice a2 n2 c2) := b1.c 1 rfl
  have HF := Lib.hid (h.below HW2.out)
  have HG := Lib.hid (hr.below HW2.out)
  have HI := Lib.hid hi
  clear h hr hi b0 b1
  go_enter Try.func20, Try.ntmps20
  by_cases h1 : OpOk size ar tab
  · have HO := Lib.hid h1
    clear h1
    go_wp2_with fail
    refine (implValidOp size ar a n c tab true _ HF.out (Tells.yes HO.out)).mono ?_
    rintro e w3 ⟨rfl, hb3⟩
    have HF3 := Lib.hid (HF.out.below hb3)
    have HG3 := Lib.hid (HG.out.below hb3)
    have HW3 := Lib.hid (HW2.out.trans (hb3.mono HW2.out.size))
    have e0 := below_cell hb3 d0
    have e1 := below_cell hb3 d1
    have e2 := below_cell hb3 d2
    have e3 := below_cell hb3 d3
    clear d0 d1 d2 d3 hb3
    by_cases h2 : RelOk size q rs
    · have HK := Lib.hid h2
      clear h2
      go_wp2_with fail
      refine (implValidRel size q a2 n2 c2 rs true _ HG3.out (Tells.yes HK.out)).mono ?_
      rintro e w4 ⟨rfl, hb4⟩
      have HF4 := Lib.hid (HF3.out.below hb4)
      have HG4 := Lib.hid (HG3.out.below hb4)
      have HW4 := Lib.hid (HW3.out.trans (hb4.mono HW3.out.size))
      have f0 := below_cell hb4 e0
      have f1 := below_cell hb4 e1
      have f2 := below_cell hb4 e2
      have f3 := below_cell hb4 e3
      clear e0 e1 e2 e3 hb4
      obtain ⟨s, rfl⟩ : ∃ s : Nat, size = s := ⟨size.toNat, by have := HK.out.1.1; omega⟩
      obtain ⟨r, rfl⟩ : ∃ r : Nat, ar = r := ⟨ar.toNat, by have := HO.out.2.1.1; omega⟩
      obtain ⟨p, rfl⟩ : ∃ p : Nat, q = p := ⟨q.toNat, by have := HK.out.2.1.1; omega⟩
      go_wp2_with fail
      refine (firstBreakC s r p a n c tab a2 n2 c2 rs _ HF4.out HO.out HG4.out HK.out).mono ?_
      rintro e w5 ⟨bf, ta, tc, la, lc, is, mv, rfl, hb5, hown, hfi⟩
      have HW5 := Lib.hid (HW4.out.trans (hb5.mono HW4.out.size))
      have HT := Lib.hid hfi.tells
      clear hb5 hown hfi f0 f1 f2 f3
      go_wp2
      go_ret2
      rcases HI.out with ⟨_, _, rfl, htb⟩ | ⟨hn, _⟩
      · simp only [Int.toNat_natCast] at htb
        refine ⟨?_, HW5.out.alloc HW5.out.size _⟩
        have : b = !bf := by
          cases bf with
          | true => exact htb.is_false fun k => k (HT.out.1 rfl)
          | false => exact htb.is_true fun k => absurd (HT.out.2 k) (by simp)
        rw [this]
        rfl
      · exact absurd ⟨HO.out, HK.out⟩ hn
    · have HK := Lib.hid h2
      clear h2
      go_wp2_with fail
      refine (implValidRel size q a2 n2 c2 rs false _ HG3.out (Tells.no HK.out)).mono ?_
      rintro e w4 ⟨rfl, hb4⟩
      have HW4 := Lib.hid (HW3.out.trans (hb4.mono HW3.out.size))
      clear hb4
      go_wp2
      go_ret2
      rcases HI.out with ⟨_, h2, _⟩ | ⟨_, rfl, rfl⟩
      · exact absurd h2 HK.out
      · exact ⟨rfl, HW4.out⟩
  · have HO := Lib.hid h1
    clear h1
    go_wp2_with fail
    refine (implValidOp size ar a n c tab false _ HF.out (Tells.no HO.out)).mono ?_
    rintro e w3 ⟨rfl, hb3⟩
    have HW3 := Lib.hid (HW2.out.trans (hb3.mono HW2.out.size))
    clear hb3
    go_wp2
    go_ret2
    rcases HI.out with ⟨h2, _⟩ | ⟨_, rfl, rfl⟩
    · exact absurd h2 HO.out
    · exact ⟨rfl, HW3.out⟩

set_option linter.unusedSimpArgs false in
set_option maxHeartbeats 4000000 in
set_option maxRecDepth 100000 in
theorem implKeepsAll (sz : Int) (a : Option Addr) (n c : Nat) (rs : List (Int × List (List Int))) (ar : Int) (a2 : Option Addr) (n2 c2 : Nat) (tab : List Int) (m cd : Int) (w : World) (h : RelsAt w (.slice a n c) rs) (hf : RowAt w (.slice a2 n2 c2) tab) (hi : KeepsAllIs sz rs ar tab m cd) :
    Calls Try.prog 26 #[.agg #[.int .i64 sz, .slice a n c], .agg #[.int .i64 ar, .slice a2 n2 c2]] w fun e w' => e = .returned (.tuple #[.int .i64 m, .int .i64 cd]) ∧ Below w.heap.size w w' := by
  have HW2 : Hid (Below w.heap.size w ((w.alloc (.cells #[.int .i64 sz, .slice a n c] 47)).alloc (.cells #[.int .i64 ar, .slice a2 n2 c2] 32))) := Lib.hid (((Below.refl _ _).alloc (Nat.le_refl _) _).alloc (by simp) _)
  have b0 : Box 47 ((w.alloc (.cells #[.int .i64 sz, .slice a n c] 47)).alloc (.cells #[.int .i64 ar, .slice a2 n2 c2] 32)) w.heap.size #[.int .i64 sz, .slice a n c] := (Box.new _ _ _).below ((Below.refl _ _).alloc (Nat.le_refl _) _)
  have b1 : Box 32 ((w.alloc (.cells #[.int .i64 sz, .slice a n c] 47)).alloc (.cells #[.int .i64 ar, .slice a2 n2 c2] 32)) (w.heap.size + 1) #[.int .i64 ar, .slice a2 n2 c2] := by
    have h := Box.new 32 (w.alloc (.cells #[.int .i64 sz, .slice a n c] 47)) #[.int .i64 ar, .slice a2 n2 c2]
    rwa [World.size_alloc] at h
  have d0 : ((w.alloc (.cells #[.int .i64 sz, .slice a n c] 47)).alloc (.cells #[.int .i64 ar, .slice a2 n2 c2] 32)).cell? ⟨w.heap.size, 0, none⟩ = some (.int .i64 sz) := b0.c 0 rfl
  have d1 : ((w.alloc (.cells #[.int .i64 sz, .slice a n c] 47)).alloc (.cells #[.int .i64 ar, .slice a2 n2 c2] 32)).cell? ⟨w.heap.size, 1, none⟩ = some (.slice a n c) := b0.c 1 rfl
  have d2 : ((w.alloc (.cells #[.int .i64 sz, .slice a n c] 47)).alloc (.cells #[.int .i64 ar, .slice a2 n2 c2] 32)).cell? ⟨w.heap.size + 1, 0, none⟩ = some (.int .i64 ar) := b1.c 0 rfl
  have d3 : ((w.alloc (.cells #[.int .i64 sz, .slice a n c] 47)).alloc (.cells #[.int .i64 ar, .slice a2 n2 c2] 32)).cell? ⟨w.heap.size + 1, 1, none⟩ = some (.slice a2 n2 c2) := b1.c 1 rfl
  have HR := Lib.hid (h.below HW2.out)
  have HF := Lib.hid (hf.below HW2.out)
  have HI := Lib.hid hi
  clear h hf hi b0 b1
  go_enter Try.func26, Try.ntmps26
  by_cases h1 : TplOk sz rs
  · have HK := Lib.hid h1
    clear h1
    go_wp2_with fail
    refine (implValidTemplate sz a n c rs true _ HR.out (Tells.yes HK.out)).mono ?_
    rintro e w3 ⟨rfl, hb3⟩
    have HR3 := Lib.hid (HR.out.below hb3)
    have HF3 := Lib.hid (HF.out.below hb3)
    have HW3 := Lib.hid (HW2.out.trans (hb3.mono HW2.out.size))
    have e0 := below_cell hb3 d0
    have e1 := below_cell hb3 d1
    have e2 := below_cell hb3 d2
    have e3 := below_cell hb3 d3
    clear d0 d1 d2 d3 hb3
    by_cases h2 : OpOk sz ar tab
    · have HO := Lib.hid h2
      clear h2
      go_wp2_with fail
      refine (implValidOp sz ar a2 n2 c2 tab true _ HF3.out (Tells.yes HO.out)).mono ?_
      rintro e w4 ⟨rfl, hb4⟩
      have HR4 := Lib.hid (HR3.out.below hb4)
      have HF4 := Lib.hid (HF3.out.below hb4)
      have HW4 := Lib.hid (HW3.out.trans (hb4.mono HW3.out.size))
      have f0 := below_cell hb4 e0
      have f1 := below_cell hb4 e1
      have f2 := below_cell hb4 e2
      have f3 := below_cell hb4 e3
      clear e0 e1 e2 e3 hb4
      obtain ⟨s, rfl⟩ : ∃ s : Nat, sz = s := ⟨sz.toNat, by have := HK.out.1.1; omega⟩
      obtain ⟨r, rfl⟩ : ∃ r : Nat, ar = r := ⟨ar.toNat, by have := HO.out.2.1.1; omega⟩
      have HM : Hid (FirstB s r tab rs m ∧ cd = 0) := Lib.hid (by
        rcases HI.out with ⟨_, _, h, h2⟩ | ⟨hn, _⟩
        · simp only [Int.toNat_natCast] at h2
          exact ⟨h2, h⟩
        · exact absurd ⟨HK.out, HO.out⟩ hn)
      obtain ⟨a', c', hv, hnn, hcl⟩ := HR4.out
      simp only [Value.slice.injEq] at hv
      obtain ⟨rfl, rfl, rfl⟩ := hv
      have HC := Lib.hid hcl
      clear hcl hnn
      go_wp2
      have HD0 := Lib.hid f0
      have HD2 := Lib.hid f2
      have HD3 := Lib.hid f3
      clear f0 f1 f2 f3
      go_loopw [23] (fun i wr => ∃ k : Nat, k ≤ rs.length ∧ i = .int .i64 k ∧ (∀ j, j < k → ¬ BrkN s r tab rs j) ∧ Below w4.heap.size w4 wr) (fun i _ => rs.length - (intOf i).toNat)
      case atStart => exact ⟨0, Nat.zero_le _, rfl, fun j hj => absurd hj (Nat.not_lt_zero _), Below.refl _ _⟩
      case round =>
        obtain ⟨k, hk, rfl, hall, hbl⟩ := hrel
        have HALL := Lib.hid hall
        have HBL := Lib.hid hbl
        clear hall
        by_cases hlt : k < rs.length
        · obtain ⟨tb, tf, rfl, hcc⟩ := HC.out (by omega)
          obtain ⟨k0, ga, gn, gc, k1, hg⟩ := (hcc k hlt).below hbl
          have hn6 := HK.out.2.1
          have hrk := HK.out.2.2 k hlt
          obtain ⟨qn, hq⟩ : ∃ qn : Nat, arN rs k = (qn : Int) := ⟨(arN rs k).toNat, by have := hrk.2.1.1; omega⟩
          rw [hq] at k0 hrk
          have HQ := Lib.hid hq
          have HRK := Lib.hid hrk
          have hal := (Below.refl wr.heap.size wr).alloc (Nat.le_refl _) (.cells #[.int .i64 (qn : Int), .slice ga gn gc] 34)
          have HAL := Lib.hid hal
          have HG := Lib.hid (hg.below hal)
          have HF5 := Lib.hid ((HF4.out.below hbl).below hal)
          have x0 := below_cell hal (below_cell hbl HD0.out)
          have x2 := below_cell hal (below_cell hbl HD2.out)
          have x3 := below_cell hal (below_cell hbl HD3.out)
          have hkn : (k : Int) < (rs.length : Int) := by omega
          clear hq hrk hg hcc hbl hal
          go_wp2_with fail
          refine (firstBreakC s r qn a2 n2 c2 tab ga gn gc (gridN rs k) _ HF5.out HO.out HG.out HRK.out).mono ?_
          rintro e w5 ⟨bf, ta, tc, la, lc, is, mv, rfl, hb5, hown, hfi⟩
          have HB5 := Lib.hid (HBL.out.trans ((HAL.out.trans (hb5.mono HAL.out.size)).mono HBL.out.size))
          have HT := Lib.hid hfi.tells
          have HQ2 : Hid (BrkN s r tab rs k ↔ Brk s r qn tab (gridN rs k)) := Lib.hid (by unfold BrkN; rw [HQ.out, Int.toNat_natCast])
          clear hb5 hown hfi x0 x2 x3 k0 k1
          cases bf with
          | true =>
            go_wp2
            go_ret2
            rw [HM.out.2, HM.out.1.some hlt (HQ2.out.2 (HT.out.1 rfl)) HALL.out]
            exact ⟨rfl, (HW4.out.trans (HB5.out.mono HW4.out.size)).alloc (by have := HB5.out.size; have := HW4.out.size; omega) _⟩
          | false =>
            go_wp2
            go_roundw
            case rel =>
              refine ⟨k + 1, by omega, by go_num, fun j hj => ?_, HB5.out.alloc HB5.out.size _⟩
              by_cases hjk : j = k
              · subst hjk
                exact fun h => absurd (HT.out.2 (HQ2.out.1 h)) (by simp)
              · exact HALL.out j (by omega)
            case measure => simp [intOf]; omega
        · obtain rfl : k = rs.length := by omega
          clear hbl
          go_wp2
          go_ret2
          rw [HM.out.2, HM.out.1.none HALL.out]
          exact ⟨rfl, HW4.out.trans (HBL.out.mono HW4.out.size)⟩
    · have HO := Lib.hid h2
      clear h2
      go_wp2_with fail
      refine (implValidOp sz ar a2 n2 c2 tab false _ HF3.out (Tells.no HO.out)).mono ?_
      rintro e w4 ⟨rfl, hb4⟩
      have HW4 := Lib.hid (HW3.out.trans (hb4.mono HW3.out.size))
      clear hb4
      go_wp2
      go_ret2
      rcases HI.out with ⟨_, h2, _⟩ | ⟨_, rfl, rfl⟩
      · exact absurd h2 HO.out
      · exact ⟨rfl, HW4.out⟩
  · have HK := Lib.hid h1
    clear h1
    go_wp2_with fail
    refine (implValidTemplate sz a n c rs false _ HR.out (Tells.no HK.out)).mono ?_
    rintro e w3 ⟨rfl, hb3⟩
    have HW3 := Lib.hid (HW2.out.trans (hb3.mono HW2.out.size))
    clear hb3
    go_wp2
    go_ret2
    rcases HI.out with ⟨h2, _⟩ | ⟨_, rfl, rfl⟩
    · exact absurd h2 HK.out
    · exact ⟨rfl, HW3.out⟩

set_option linter.unusedSimpArgs false in
set_option maxHeartbeats 4000000 in
set_option maxRecDepth 100000 in
theorem implIsPolymorphism (sz : Int) (a : Option Addr) (n c : Nat) (rs : List (Int × List (List Int))) (ar : Int) (a2 : Option Addr) (n2 c2 : Nat) (tab : List Int) (b : Bool) (cd : Int) (w : World) (h : RelsAt w (.slice a n c) rs) (hf : RowAt w (.slice a2 n2 c2) tab) (hi : IsPolymorphismIs sz rs ar tab b cd) :
    Calls Try.prog 29 #[.agg #[.int .i64 sz, .slice a n c], .agg #[.int .i64 ar, .slice a2 n2 c2]] w fun e w' => e = .returned (.tuple #[.bool b, .int .i64 cd]) ∧ Below w.heap.size w w' := by
  obtain ⟨m, hi, hbb⟩ := hi
  have HW2 : Hid (Below w.heap.size w ((w.alloc (.cells #[.int .i64 sz, .slice a n c] 47)).alloc (.cells #[.int .i64 ar, .slice a2 n2 c2] 32))) := Lib.hid (((Below.refl _ _).alloc (Nat.le_refl _) _).alloc (by simp) _)
  have b0 : Box 47 ((w.alloc (.cells #[.int .i64 sz, .slice a n c] 47)).alloc (.cells #[.int .i64 ar, .slice a2 n2 c2] 32)) w.heap.size #[.int .i64 sz, .slice a n c] := (Box.new _ _ _).below ((Below.refl _ _).alloc (Nat.le_refl _) _)
  have b1 : Box 32 ((w.alloc (.cells #[.int .i64 sz, .slice a n c] 47)).alloc (.cells #[.int .i64 ar, .slice a2 n2 c2] 32)) (w.heap.size + 1) #[.int .i64 ar, .slice a2 n2 c2] := by
    have h := Box.new 32 (w.alloc (.cells #[.int .i64 sz, .slice a n c] 47)) #[.int .i64 ar, .slice a2 n2 c2]
    rwa [World.size_alloc] at h
  have d0 : ((w.alloc (.cells #[.int .i64 sz, .slice a n c] 47)).alloc (.cells #[.int .i64 ar, .slice a2 n2 c2] 32)).cell? ⟨w.heap.size, 0, none⟩ = some (.int .i64 sz) := b0.c 0 rfl
  have d1 : ((w.alloc (.cells #[.int .i64 sz, .slice a n c] 47)).alloc (.cells #[.int .i64 ar, .slice a2 n2 c2] 32)).cell? ⟨w.heap.size, 1, none⟩ = some (.slice a n c) := b0.c 1 rfl
  have d2 : ((w.alloc (.cells #[.int .i64 sz, .slice a n c] 47)).alloc (.cells #[.int .i64 ar, .slice a2 n2 c2] 32)).cell? ⟨w.heap.size + 1, 0, none⟩ = some (.int .i64 ar) := b1.c 0 rfl
  have d3 : ((w.alloc (.cells #[.int .i64 sz, .slice a n c] 47)).alloc (.cells #[.int .i64 ar, .slice a2 n2 c2] 32)).cell? ⟨w.heap.size + 1, 1, none⟩ = some (.slice a2 n2 c2) := b1.c 1 rfl
  have HR := Lib.hid (h.below HW2.out)
  have HF := Lib.hid (hf.below HW2.out)
  have HI := Lib.hid hi
  have HBB := Lib.hid hbb
  clear h hf hi b0 b1 hbb
  go_enter Try.func29, Try.ntmps29
  go_wp2_with fail
  refine (implKeepsAll sz a n c rs ar a2 n2 c2 tab m cd _ HR.out HF.out HI.out).mono ?_
  rintro e w3 ⟨rfl, hb3⟩
  have HW3 := Lib.hid (HW2.out.trans (hb3.mono HW2.out.size))
  clear hb3 d0 d1 d2 d3
  have hcd : cd = 0 ∨ cd = 1 := by
    rcases HI.out with ⟨_, _, h, _⟩ | ⟨_, _, h⟩
    · exact .inl h
    · exact .inr h
  rcases hcd with rfl | rfl
  · by_cases hm : m = -1
    · subst hm
      go_wp2
      go_ret2
      rw [HBB.out]
      exact ⟨rfl, HW3.out⟩
    · have hm2 : (m == -1) = false := beq_eq_false_iff_ne.2 hm
      clear hm
      go_wp2
      go_ret2
      rw [HBB.out, hm2]
      exact ⟨rfl, HW3.out⟩
  · go_wp2
    go_ret2
    rw [HBB.out]
    exact ⟨by simp, HW3.out⟩

end Go.Proofs.Ytoojgaaggdnpiaa
