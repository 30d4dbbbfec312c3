/-
  FullDomains of the model and of the program.
-/
import Derived.Test.YtiinohkkfjbfhaaInstOk2
import Derived.Test.YtiinohkkfjbfhaaAtomF
import Derived.Test.YtiinohkkfjbfhaaGrowAt
namespace Go.Proofs.Ytiinohkkfjbfhaa
open Go.RowKit

def reps (k s : Nat) : List (List Int) := List.replicate k (cnts s)
theorem reps_len (k s : Nat) : (reps k s).length = k := by simp [reps]
theorem reps_succ (k s : Nat) : reps (k + 1) s = reps k s ++ [cnts s] := by simp [reps, List.replicate_succ']
theorem reps_sum (k s : Nat) : ((reps k s).map List.length).sum = k * s := by simp [reps, cnts_len]
def MadeGrid2 (w : World) (zs : List (List Int)) (cd : Int) (e : Ending) (w' : World) : Prop :=
  ∃ a n c, e = .returned (.tuple #[.slice a n c, .int .i64 cd]) ∧ OwnGrid w' w.heap.size w'.heap.size (.slice a n c) zs ∧ Below w.heap.size w w'
def FullDomainsIs (sz : Int) (rs : List (Int × List (List Int))) (va : Int) (cs : List (Int × List Int)) (zs : List (List Int)) (cd : Int) : Prop :=
  (InstOk sz rs va cs ∧ zs = reps va.toNat sz.toNat ∧ cd = 0) ∨ (¬ InstOk sz rs va cs ∧ zs = [] ∧ cd = 1)
theorem FullDomainsIs.exists (sz : Int) (rs : List (Int × List (List Int))) (va : Int) (cs : List (Int × List Int)) : ∃ zs cd, FullDomainsIs sz rs va cs zs cd := by
  by_cases h : InstOk sz rs va cs
  · exact ⟨_, _, .inl ⟨h, rfl, rfl⟩⟩
  · exact ⟨_, _, .inr ⟨h, rfl, rfl⟩⟩
theorem FullDomainsIs.small {sz : Int} {rs : List (Int × List (List Int))} {va : Int} {cs : List (Int × List Int)} {zs : List (List Int)} {cd : Int} (h : FullDomainsIs sz rs va cs zs cd) : zs.length + (zs.map List.length).sum ≤ 1048576 := by
  rcases h with ⟨h, rfl, -⟩ | ⟨-, rfl, -⟩
  · rw [reps_len, reps_sum]
    have h1 : va.toNat ≤ 10 := by have := h.2.1.2; omega
    have h2 : sz.toNat ≤ 4 := by have := h.1.1.2; omega
    have h3 := Nat.mul_le_mul h1 h2
    omega
  · simp
theorem OwnGrid.nil0 (w : World) (B E : Nat) (hE : E ≤ w.heap.size) : OwnGrid w B E (.slice none 0 0) [] :=
  ⟨fun _ => .slice none 0 0, World.ownsRow_nil w B _ 1, hE, fun g hg => by simp [Value.ownBlock] at hg, fun i hi => absurd hi (by simp), fun i hi => absurd hi (by simp), fun i j _ hj => absurd hj (by simp)⟩
theorem OwnGrid.lit0 (w : World) : OwnGrid (w.alloc (.cells #[] 56)) w.heap.size (w.alloc (.cells #[] 56)).heap.size (.slice (some ⟨w.heap.size, 0, none⟩) 0 0) [] :=
  ⟨fun _ => .slice none 0 0, World.ownsRow_lit (e := 56) (size := 1) w #[] 0 (Nat.le_refl _) (by unfold maxLen; omega) (by simp), Nat.le_refl _, fun g hg => by simp [Value.ownBlock] at hg; simp; omega, fun i hi => absurd hi (by simp), fun i hi => absurd hi (by simp), fun i j _ hj => absurd hj (by simp)⟩

set_option maxHeartbeats 1000000 in
set_option maxRecDepth 100000 in
theorem l05Full (tb to : Nat) (rs : List (Int × List (List Int))) (pb po : Nat) (cs : List (Int × List Int)) (v s : Nat) (w : World) (ht : TplAt w tb to s rs) (h : InstAt w pb po v cs) (hv : v ≤ 10) (hs : s ≤ 1000) :
    Calls Try.prog 82 #[.pointer (some ⟨tb, to, none⟩), .pointer (some ⟨pb, po, none⟩)] w fun e w' => ∃ a n c, e = .returned (.slice a n c) ∧ OwnGrid w' w.heap.size w'.heap.size (.slice a n c) (reps v s) ∧ Below w.heap.size w w' := by
  obtain ⟨i0, hi, hz0, hz1, hz2⟩ := info_parts info_rowO
  have t0 := ht.size
  have x0 := h.vars
  clear ht h
  go_enter Try.func82, Try.ntmps82
  go_wp2
  go_loopw [5, 6] (fun u i wr => ∃ (k : Nat) (a : Option Addr) (n c : Nat), k ≤ v ∧ i = .int .i64 k ∧ u = .slice a n c ∧ OwnGrid wr w.heap.size wr.heap.size (.slice a n c) (reps k s) ∧ Below w.heap.size w wr) (fun _ i _ => v - (intOf i).toNat)
  case atStart => exact ⟨0, _, _, _, Nat.zero_le _, rfl, rfl, OwnGrid.lit0 w, (Below.refl _ _).alloc (Nat.le_refl _) _⟩
  case round =>
    obtain ⟨k, a, n, c, hk, rfl, rfl, hg, hbel⟩ := hrel
    have t0' := below_cell hbel t0
    have x0' := below_cell hbel x0
    by_cases hlt : k < v
    · have hlt' : (k : Int) < (v : Int) := by omega
      obtain ⟨V, hV⟩ := hg
      have HV := Lib.hid hV
      have HW := Lib.hid hbel
      clear hV hbel
      go_wp2_with (first | (go_at_call 109; refine (l03Count s hs _).mono ?_; rintro e w2 ⟨a2, c2, rfl, ho2, hb2⟩; have HO2 := Lib.hid ho2; have HB2 := Lib.hid hb2; have HC2 := Lib.hid (cell_one_new w2 (.slice a2 s c2) 56); clear ho2 hb2) | (at_builtin; refine wpList_append_own _ rfl _ _ 46 rfl w.heap.size 56 i0 (.slice none 0 0) 1 24 Try.underlying46 hi hz0 hz1 hz2 rfl (by decide) (.slice a n c) (reps k s).length _ rfl ((ownsRow_below HV.out.outer HB2.out).alloc _) ⟨w2.heap.size, 0, none⟩ 1 1 [.slice a2 s c2] rfl rfl HC2.out (by simp [Value.oneCell']) (by rw [reps_len]; unfold maxLen; omega) (by rw [reps_len]; omega) (by have := HW.out.size; have := HB2.out.size; simp; omega) ?_; intro v' w3 hown' hgrow _; obtain ⟨g', c', rfl⟩ := ownsRow_succ hown'; have HG3 := Lib.hid hown'; have HR3 := Lib.hid hgrow; clear hown' hgrow))
      go_roundw
      case rel =>
        refine ⟨k + 1, _, _, _, by omega, by go_num, rfl, ?_, ?_⟩
        · have hal := (Below.refl w2.heap.size w2).alloc (Nat.le_refl _) (.cells #[.slice a2 s c2] 56)
          have hG := HV.out.grow (HB2.out.trans (hal.mono HB2.out.size)) (OwnRow.below HO2.out hal) HW.out.size HG3.out HR3.out
          rw [reps_succ]
          refine ⟨fun i => if i = (reps k s).length then .slice a2 s c2 else V i, ?_⟩
          rw [List.length_append]
          refine hG.congr fun i hi => ?_
          rw [rowN_snoc _ _ _ hi]
        · exact (HW.out.trans ((HB2.out.alloc HB2.out.size _).mono HW.out.size)).grown HR3.out (by have := HW.out.size; have := HB2.out.size; simp; omega) (fun q hq => (HV.out.outer.lt q hq).1)
      case measure => simp [intOf]; omega
    · obtain rfl : k = v := by omega
      have HG := Lib.hid hg
      have HW := Lib.hid hbel
      clear hg hbel
      go_wp2
      go_ret
      exact ⟨_, _, _, rfl, HG.out, HW.out⟩

set_option maxHeartbeats 400000 in
set_option maxRecDepth 100000 in
theorem specFullDomains (sz : Int) (a1 : Option Addr) (n1 c1 : Nat) (rs : List (Int × List (List Int))) (va : Int) (a2 : Option Addr) (n2 c2 : Nat) (cs : List (Int × List Int)) (zs : List (List Int)) (cd : Int) (w : World) (h1 : RelsAt w (.slice a1 n1 c1) rs) (h2 : OpsAt w (.slice a2 n2 c2) cs) (hi : FullDomainsIs sz rs va cs zs cd) :
    Calls Try.prog 27 #[.agg #[.int .i64 sz, .slice a1 n1 c1], .agg #[.int .i64 va, .slice a2 n2 c2]] w (MadeGrid2 w zs cd) := by
  have hbw := (Below.refl w.heap.size w).alloc (Nat.le_refl _) (.cells #[.int .i64 sz, .slice a1 n1 c1] 33)
  have hbw2 := hbw.alloc (by simp) (.cells #[.int .i64 va, .slice a2 n2 c2] 37)
  have H1 := Lib.hid ((TplAt.new w sz a1 n1 c1 rs 33 h1).below ((Below.refl _ _).alloc (Nat.le_refl _) (.cells #[.int .i64 va, .slice a2 n2 c2] 37)))
  have H2' := Lib.hid (InstAt.new (w.alloc (.cells #[.int .i64 sz, .slice a1 n1 c1] 33)) va a2 n2 c2 cs 37 (h2.below hbw))
  have H2 : Hid (InstAt ((w.alloc (.cells #[.int .i64 sz, .slice a1 n1 c1] 33)).alloc (.cells #[.int .i64 va, .slice a2 n2 c2] 37)) (w.heap.size + 1) 0 va cs) := Lib.hid (by have := H2'.out; simpa using this)
  have HW := Lib.hid hbw2
  clear h1 h2 hbw hbw2 H2'
  rcases hi with ⟨h1, rfl, rfl⟩ | ⟨h1, rfl, rfl⟩
  · have HOK := Lib.hid (Tells.yes h1)
    obtain ⟨v, rfl⟩ : ∃ v : Nat, va = v := ⟨va.toNat, by have := h1.2.1.1; omega⟩
    obtain ⟨s, rfl⟩ : ∃ s : Nat, sz = s := ⟨sz.toNat, by have := h1.1.1.1; omega⟩
    have hv : v ≤ 10 := by have := h1.2.1.2; omega
    have hs : s ≤ 1000 := by have := h1.1.1.2; omega
    clear h1
    go_enter Try.func27, Try.ntmps27
    go_wp2_with fail
    refine (l05Ok _ _ _ rs _ _ _ cs true _ H1.out H2.out HOK.out).mono ?_
    rintro e w2 ⟨rfl, hq⟩
    have HQ := Lib.hid (hq : QW _ w2).bel
    clear hq
    go_wp2_with fail
    refine (l05Full _ _ rs _ _ cs v s _ (H1.out.below HQ.out) (H2.out.below HQ.out) hv hs).mono ?_
    rintro e w3 ⟨a3, n3, c3, rfl, ho3, hb3⟩
    have HO := Lib.hid (OwnGrid.mono ho3 (B' := w.heap.size) (by have h := HQ.out.size; simp at h; omega))
    have HE := Lib.hid (HW.out.trans ((HQ.out.trans (hb3.mono HQ.out.size)).mono HW.out.size))
    clear ho3 hb3
    go_wp2
    go_ret2
    exact ⟨a3, n3, c3, rfl, by simpa using HO.out, HE.out⟩
  · have HOK := Lib.hid (Tells.no h1)
    clear h1
    go_enter Try.func27, Try.ntmps27
    go_wp2_with fail
    refine (l05Ok _ _ _ rs _ _ _ cs false _ H1.out H2.out HOK.out).mono ?_
    rintro e w2 ⟨rfl, hq⟩
    have HQ := Lib.hid (hq : QW _ w2).bel
    have HE := Lib.hid (HW.out.trans (HQ.out.mono HW.out.size))
    clear hq
    go_wp2
    go_ret2
    exact ⟨_, _, _, rfl, (OwnGrid.lit0 w2).mono HE.out.size, HE.out.alloc HE.out.size _⟩

set_option maxHeartbeats 1000000 in
set_option maxRecDepth 100000 in
theorem implFullDomains (sz : Int) (a1 : Option Addr) (n1 c1 : Nat) (rs : List (Int × List (List Int))) (va : Int) (a2 : Option Addr) (n2 c2 : Nat) (cs : List (Int × List Int)) (zs : List (List Int)) (cd : Int) (w : World) (h1 : RelsAt w (.slice a1 n1 c1) rs) (h2 : OpsAt w (.slice a2 n2 c2) cs) (hi : FullDomainsIs sz rs va cs zs cd) :
    Calls Try.prog 28 #[.agg #[.int .i64 sz, .slice a1 n1 c1], .agg #[.int .i64 va, .slice a2 n2 c2]] w (MadeGrid2 w zs cd) := by
  have K0 := Lib.hid (((((Kept.start w).read (lives_rels _ _) h1).read (lives_ops _ _) h2).box w.heap.size rfl (.int .i64 sz) (.slice a1 n1 c1) 33).box (w.heap.size + 1) (by simp) (.int .i64 va) (.slice a2 n2 c2) 37)
  clear h1 h2
  rcases hi with ⟨h1, rfl, rfl⟩ | ⟨h1, rfl, rfl⟩
  · have HOK := Lib.hid (Tells.yes h1)
    obtain ⟨v, rfl⟩ : ∃ v : Nat, va = v := ⟨va.toNat, by have := h1.2.1.1; omega⟩
    obtain ⟨s, rfl⟩ : ∃ s : Nat, sz = s := ⟨sz.toNat, by have := h1.1.1.1; omega⟩
    have hv : v ≤ 10 := by have := h1.2.1.2; omega
    have hs : s ≤ 1000 := by have := h1.1.1.2; omega
    obtain ⟨i0, hi, hz0, hz1, hz2⟩ := info_parts info_rowO
    clear h1
    go_enter Try.func28, Try.ntmps28
    go_wp2_with fail
    refine (implValidInstance _ _ _ _ _ _ _ _ _ _ true _ (K0.out.r 1 rfl :) (K0.out.r 0 rfl :) HOK.out).mono ?_
    rintro e w1 ⟨rfl, hb1⟩
    have K1 := Lib.hid (K0.out.below hb1)
    have hz : w.heap.size + 2 ≤ w1.heap.size := by have := hb1.size; simpa using this
    have c0 := K1.out.c 0 rfl
    clear hb1
    go_wp2
    clear c0
    go_loopw [6, 13] (fun u i wr => ∃ (k : Nat) (a : Option Addr) (n c : Nat), k ≤ v ∧ i = .int .i64 k ∧ u = .slice a n c ∧ OwnGrid wr w1.heap.size wr.heap.size (.slice a n c) (reps k s) ∧ Below w1.heap.size w1 wr) (fun _ i _ => v - (intOf i).toNat)
    case atStart => exact ⟨0, _, _, _, Nat.zero_le _, rfl, rfl, OwnGrid.nil0 w1 _ _ (Nat.le_refl _), Below.refl _ _⟩
    case round =>
      obtain ⟨k, a, n, c, hk, rfl, rfl, hg, hbel⟩ := hrel
      have t0' := (K1.out.below hbel).c 2 rfl
      by_cases hlt : k < v
      · have hlt' : (k : Int) < (v : Int) := by omega
        obtain ⟨V, hV⟩ := hg
        have HV := Lib.hid hV
        have HW := Lib.hid hbel
        clear hV hbel
        go_wp2_with (first | (go_at_call 83; refine (numbersBelow s hs _).mono ?_; rintro e w2 ⟨a2, c2, rfl, ho2, hb2⟩; have HO2 := Lib.hid ho2; have HB2 := Lib.hid hb2; have HC2 := Lib.hid (cell_one_new w2 (.slice a2 s c2) 56); clear ho2 hb2) | (at_builtin; refine wpList_append_own _ rfl _ _ 46 rfl w1.heap.size 56 i0 (.slice none 0 0) 1 24 Try.underlying46 hi hz0 hz1 hz2 rfl (by decide) (.slice a n c) (reps k s).length _ rfl ((ownsRow_below HV.out.outer HB2.out).alloc _) ⟨w2.heap.size, 0, none⟩ 1 1 [.slice a2 s c2] rfl rfl HC2.out (by simp [Value.oneCell']) (by rw [reps_len]; unfold maxLen; omega) (by rw [reps_len]; omega) (by have := HW.out.size; have := HB2.out.size; simp; omega) ?_; intro v' w3 hown' hgrow _; obtain ⟨g', c', rfl⟩ := ownsRow_succ hown'; have HG3 := Lib.hid hown'; have HR3 := Lib.hid hgrow; clear hown' hgrow))
        go_roundw
        case rel =>
          refine ⟨k + 1, _, _, _, by omega, by go_num, rfl, ?_, ?_⟩
          · have hal := (Below.refl w2.heap.size w2).alloc (Nat.le_refl _) (.cells #[.slice a2 s c2] 56)
            have hG := HV.out.grow (HB2.out.trans (hal.mono HB2.out.size)) (OwnRow.below HO2.out hal) HW.out.size HG3.out HR3.out
            rw [reps_succ]
            refine ⟨fun i => if i = (reps k s).length then .slice a2 s c2 else V i, ?_⟩
            rw [List.length_append]
            refine hG.congr fun i hi => ?_
            rw [rowN_snoc _ _ _ hi]
          · exact (HW.out.trans ((HB2.out.alloc HB2.out.size _).mono HW.out.size)).grown HR3.out (by have := HW.out.size; have := HB2.out.size; simp; omega) (fun q hq => (HV.out.outer.lt q hq).1)
        case measure => simp [intOf]; omega
      · obtain rfl : k = v := by omega
        have HG := Lib.hid (OwnGrid.mono hg (B' := w.heap.size) (by omega))
        have HW := Lib.hid (K1.out.below hbel).bel
        clear hg hbel
        go_wp2
        go_ret2
        exact ⟨_, _, _, rfl, by simpa using HG.out, HW.out⟩
  · have HOK := Lib.hid (Tells.no h1)
    clear h1
    go_enter Try.func28, Try.ntmps28
    go_wp2_with fail
    refine (implValidInstance _ _ _ _ _ _ _ _ _ _ false _ (K0.out.r 1 rfl :) (K0.out.r 0 rfl :) HOK.out).mono ?_
    rintro e w1 ⟨rfl, hb1⟩
    have K1 := Lib.hid (K0.out.below hb1)
    clear hb1
    go_wp2
    go_ret2
    exact ⟨_, _, _, rfl, OwnGrid.nil0 w1 _ _ (Nat.le_refl _), K1.out.bel⟩

end Go.Proofs.Ytiinohkkfjbfhaa
