/-
  Valid domains: ValidDomains of the model and of the program.
-/
import Derived.Test.YtiinohkkfjbfhaaInstOk2
import Derived.Test.YtiinohkkfjbfhaaRises
namespace Go.Proofs.Ytiinohkkfjbfhaa
open Go.RowKit

def DomsP (sz : Int) (ds : List (List Int)) : Prop := ∀ k, k < ds.length → RisesP (rowN ds k) sz
def DomsOk (sz : Int) (rs : List (Int × List (List Int))) (va : Int) (cs : List (Int × List Int)) (ds : List (List Int)) : Prop := InstOk sz rs va cs ∧ (ds.length : Int) = va ∧ DomsP sz ds
def ValidDomainsIs (sz : Int) (rs : List (Int × List (List Int))) (va : Int) (cs : List (Int × List Int)) (ds : List (List Int)) (b : Bool) : Prop := Tells b (DomsOk sz rs va cs ds)
theorem ValidDomainsIs.exists (sz : Int) (rs : List (Int × List (List Int))) (va : Int) (cs : List (Int × List Int)) (ds : List (List Int)) : ∃ b, ValidDomainsIs sz rs va cs ds b := Tells.exists' _

set_option maxHeartbeats 1000000 in
set_option maxRecDepth 100000 in
theorem l05Domains (tb to : Nat) (sz : Int) (rs : List (Int × List (List Int))) (pb po : Nat) (va : Int) (cs : List (Int × List Int)) (v : Value) (ds : List (List Int)) (b : Bool) (w : World) (ht : TplAt w tb to sz rs) (h : InstAt w pb po va cs) (hd : GridAt w v ds) (hs : In14 sz) (hb : Tells b ((ds.length : Int) = va ∧ DomsP sz ds)) :
    Calls Try.prog 133 #[.pointer (some ⟨tb, to, none⟩), .pointer (some ⟨pb, po, none⟩), v] w fun e w' => e = .returned (.bool b) ∧ QW w w' := by
  obtain ⟨tp0, -⟩ := ht
  obtain ⟨x1, -⟩ := h
  obtain ⟨V, ⟨a, c, rfl, hn, hc⟩, hV⟩ := hd
  have HC := Lib.hid hc
  have HV := Lib.hid hV
  have HB := Lib.hid hb
  have hs1 : 1 ≤ sz := hs.1
  have hs2 : sz ≤ 4 := hs.2
  clear hc hV hb
  go_enter Try.func133, Try.ntmps133
  go_wp2
  go_loopw [7] (fun i wr => ∃ k : Nat, k ≤ ds.length ∧ i = .int .i64 k ∧ (∀ j, j < k → RisesP (rowN ds j) sz) ∧ QW w wr) (fun i _ => ds.length - (intOf i).toNat)
  case atStart => exact ⟨0, Nat.zero_le _, rfl, fun j hj => absurd hj (Nat.not_lt_zero _), QW.refl _⟩
  case round =>
    obtain ⟨k, hk, rfl, hall, hq⟩ := hrel
    have HA := Lib.hid hall
    have HQ := Lib.hid hq
    have t0 := HQ.out.cell tp0
    have e1 := HQ.out.cell x1
    clear hall hq
    by_cases hlt : k < ds.length
    · obtain ⟨b1, off1, ha1, hcell1⟩ := HC.out (by omega)
      subst ha1
      have hx1 := HQ.out.cell (hcell1 k hlt)
      have hlt' : (k : Int) < (ds.length : Int) := by omega
      have HROW := Lib.hid (HV.out k hlt)
      clear hcell1
      by_cases hp : RisesP (rowN ds k) sz
      · have HP := Lib.hid (Tells.yes hp)
        have HPP := Lib.hid hp
        clear hp
        go_wp2
        go_quiet ((go_at_call 95; exact QW.calls (l00Rises _ _ sz _ true _ ((HQ.out.drewN _).row HROW.out) (by first | rfl | omega) HP.out)))
        go_wp2
        go_roundw
        case rel =>
          refine ⟨k + 1, by omega, by go_num, fun j hj => ?_, HQ.out.drewN _⟩
          by_cases hjk : j = k
          · subst hjk; exact HPP.out
          · exact HA.out j (by omega)
        case measure => simp [intOf]; omega
      · have HP := Lib.hid (Tells.no hp)
        have HF := Lib.hid (HB.out.is_false fun h => hp (h.2 k hlt))
        clear hp
        go_wp2
        go_quiet ((go_at_call 95; exact QW.calls (l00Rises _ _ sz _ false _ ((HQ.out.drewN _).row HROW.out) (by first | rfl | omega) HP.out)))
        go_wp2
        go_ret
        exact ⟨ret_bool HF.out.symm, HQ.out.drewN _⟩
    · obtain rfl : k = ds.length := by omega
      by_cases hl : (ds.length : Int) = va
      · have HF := Lib.hid (HB.out.is_true ⟨hl, HA.out⟩)
        have hlb : ((ds.length : Int) == va) = true := beq_iff_eq.2 hl
        clear hl
        go_wp2
        go_ret
        exact ⟨ret_bool (by first | exact HF.out.symm | simp [HF.out, hlb]), HQ.out⟩
      · have HF := Lib.hid (HB.out.is_false fun h => hl h.1)
        have hlb : ((ds.length : Int) == va) = false := beq_eq_false_iff_ne.2 hl
        clear hl
        go_wp2
        go_ret
        exact ⟨ret_bool (by first | exact HF.out.symm | simp [HF.out, hlb]), HQ.out⟩

set_option maxHeartbeats 1000000 in
theorem l05Both (tb to : Nat) (sz : Int) (rs : List (Int × List (List Int))) (pb po : Nat) (va : Int) (cs : List (Int × List Int)) (v : Value) (ds : List (List Int)) (b : Bool) (w : World) (ht : TplAt w tb to sz rs) (h : InstAt w pb po va cs) (hd : GridAt w v ds) (hb : Tells b (DomsOk sz rs va cs ds)) :
    Calls Try.prog 88 #[.pointer (some ⟨tb, to, none⟩), .pointer (some ⟨pb, po, none⟩), v] w fun e w' => e = .returned (.bool b) ∧ QW w w' := by
  have HT := Lib.hid ht
  have HI := Lib.hid h
  have HD := Lib.hid hd
  have HB := Lib.hid hb
  clear ht h hd hb
  by_cases h1 : InstOk sz rs va cs
  · have H1 := Lib.hid (Tells.yes h1)
    have HS : Hid (In14 sz) := Lib.hid h1.1.1
    have HBB : Hid (Tells b ((ds.length : Int) = va ∧ DomsP sz ds)) := Lib.hid (HB.out.congr ⟨fun h => h.2, fun h => ⟨h1, h⟩⟩)
    clear h1
    go_enter Try.func88, Try.ntmps88
    go_wp2_with fail
    refine (l05Ok _ _ _ _ _ _ _ _ true _ HT.out HI.out H1.out).mono ?_
    rintro e w1 ⟨rfl, hq⟩
    have HQ1 := Lib.hid hq
    clear hq
    go_wp2_with fail
    refine (l05Domains _ _ _ _ _ _ _ _ _ _ b _ (HT.out.below HQ1.out.bel) (HI.out.below HQ1.out.bel) (HD.out.below HQ1.out.bel) HS.out HBB.out).mono ?_
    rintro e w2 ⟨rfl, hq⟩
    have HQ2 := Lib.hid (HQ1.out.trans hq)
    clear hq
    go_wp2
    go_ret
    exact ⟨rfl, HQ2.out⟩
  · have H1 := Lib.hid (Tells.no h1)
    have HF := Lib.hid (HB.out.is_false fun h => h1 h.1)
    clear h1
    go_enter Try.func88, Try.ntmps88
    go_wp2_with fail
    refine (l05Ok _ _ _ _ _ _ _ _ false _ HT.out HI.out H1.out).mono ?_
    rintro e w1 ⟨rfl, hq⟩
    have HQ1 := Lib.hid hq
    clear hq
    go_wp2
    go_ret
    exact ⟨ret_bool HF.out.symm, HQ1.out⟩

set_option maxHeartbeats 400000 in
theorem specValidDomains (sz : Int) (a1 : Option Addr) (n1 c1 : Nat) (rs : List (Int × List (List Int))) (va : Int) (a2 : Option Addr) (n2 c2 : Nat) (cs : List (Int × List Int)) (v3 : Value) (ds : List (List Int)) (b : Bool) (w : World) (h1 : RelsAt w (.slice a1 n1 c1) rs) (h2 : OpsAt w (.slice a2 n2 c2) cs) (h3 : GridAt w v3 ds) (hb : ValidDomainsIs sz rs va cs ds b) :
    Calls Try.prog 35 #[.agg #[.int .i64 sz, .slice a1 n1 c1], .agg #[.int .i64 va, .slice a2 n2 c2], v3] w fun e w' => e = .returned (.bool b) ∧ Below w.heap.size w w' := by
  have hbw := (Below.refl w.heap.size w).alloc (Nat.le_refl _) (.cells #[.int .i64 sz, .slice a1 n1 c1] 33)
  have hbw2 := hbw.alloc (by simp) (.cells #[.int .i64 va, .slice a2 n2 c2] 37)
  have H1 := Lib.hid ((TplAt.new w sz a1 n1 c1 rs 33 h1).below ((Below.refl _ _).alloc (Nat.le_refl _) (.cells #[.int .i64 va, .slice a2 n2 c2] 37)))
  have H2 := Lib.hid (InstAt.new (w.alloc (.cells #[.int .i64 sz, .slice a1 n1 c1] 33)) va a2 n2 c2 cs 37 (h2.below hbw))
  have H3 := Lib.hid (h3.below hbw2)
  have HB := Lib.hid hb
  have HW := Lib.hid hbw2
  clear h1 h2 h3 hb hbw hbw2
  go_enter Try.func35, Try.ntmps35
  go_wp2_with fail
  refine (l05Both w.heap.size 0 sz rs (w.heap.size + 1) 0 va cs _ ds b _ H1.out (by have := H2.out; simpa using this) H3.out HB.out).mono ?_
  rintro e w2 ⟨rfl, hq⟩
  have HQ := Lib.hid (HW.out.trans (hq.below _))
  clear hq
  go_wp2
  go_ret
  exact ⟨rfl, HQ.out⟩

set_option maxHeartbeats 1000000 in
set_option maxRecDepth 100000 in
theorem implValidDomains (sz : Int) (a1 : Option Addr) (n1 c1 : Nat) (rs : List (Int × List (List Int))) (va : Int) (a2 : Option Addr) (n2 c2 : Nat) (cs : List (Int × List Int)) (v3 : Value) (ds : List (List Int)) (b : Bool) (w : World) (h1 : RelsAt w (.slice a1 n1 c1) rs) (h2 : OpsAt w (.slice a2 n2 c2) cs) (h3 : GridAt w v3 ds) (hb : ValidDomainsIs sz rs va cs ds b) :
    Calls Try.prog 37 #[.agg #[.int .i64 sz, .slice a1 n1 c1], .agg #[.int .i64 va, .slice a2 n2 c2], v3] w fun e w' => e = .returned (.bool b) ∧ Below w.heap.size w w' := by
  have HB := Lib.hid hb
  obtain ⟨a3, c3, rfl, hn3⟩ : ∃ a3 c3, v3 = .slice a3 ds.length c3 ∧ ds.length ≤ 9223372036854775807 := by obtain ⟨_, ⟨a, c, hv, hn, _⟩, _⟩ := h3; exact ⟨a, c, hv, hn⟩
  have K0 := Lib.hid ((((((Kept.start w).read (lives_rels _ _) h1).read (lives_ops _ _) h2).read (lives_grid _ _) h3).box w.heap.size rfl (.int .i64 sz) (.slice a1 n1 c1) 33).box (w.heap.size + 1) (by simp) (.int .i64 va) (.slice a2 n2 c2) 37)
  clear h1 h2 h3 hb
  by_cases g1 : InstOk sz rs va cs
  · have G1 := Lib.hid (Tells.yes g1)
    have GP1 := Lib.hid g1
    clear g1
    by_cases g2 : (ds.length : Int) = va
    · have g2' : ((ds.length : Int) == va) = true := beq_iff_eq.2 g2
      have g2'' : ((ds.length : Int) != va) = false := by simp [g2]
      have GP2 := Lib.hid g2
      clear g2
      go_enter Try.func37, Try.ntmps37
      go_wp2_with fail
      refine (implValidInstance _ _ _ _ _ _ _ _ _ _ true _ (K0.out.r 2 rfl :) (K0.out.r 1 rfl :) G1.out).mono ?_
      rintro e w1 ⟨rfl, hb1⟩
      have K1 := Lib.hid (K0.out.below hb1)
      have c0 := K1.out.c 0 rfl
      clear hb1
      go_wp2
      clear c0
      go_loopw [22] (fun i wr => ∃ k : Nat, k ≤ ds.length ∧ i = .int .i64 k ∧ (∀ j, j < k → RisesP (rowN ds j) sz) ∧ wr = w1) (fun i _ => ds.length - (intOf i).toNat)
      case atStart => exact ⟨0, Nat.zero_le _, rfl, fun j hj => absurd hj (Nat.not_lt_zero _), rfl⟩
      case round =>
        obtain ⟨k, hk, rfl, hall, rfl⟩ := hrel
        have HA := Lib.hid hall
        clear hall
        by_cases hlt : k < ds.length
        · obtain ⟨V, ⟨_, _, hv, -, hc⟩, hV⟩ := (K1.out.r 0 rfl : GridAt wr (.slice a3 ds.length c3) ds)
          simp only [Value.slice.injEq] at hv
          obtain ⟨rfl, _, rfl⟩ := hv
          obtain ⟨b1, off1, ha1, hcell1⟩ := hc (by omega)
          subst ha1
          have hx1 := hcell1 k hlt
          have HROW := Lib.hid (hV k hlt)
          have hlt' : (k : Int) < (ds.length : Int) := by omega
          have c2 := K1.out.c 2 rfl
          clear hcell1 hc hV
          by_cases hp : RisesP (rowN ds k) sz
          · have HP := Lib.hid (Tells.yes hp)
            have HPP := Lib.hid hp
            clear hp
            go_wp2_with (go_at_call 89; refine (isAscendingBelow _ _ _ true _ HROW.out HP.out).mono ?_; rintro e w' ⟨rfl, rfl⟩)
            go_roundw
            case rel =>
              refine ⟨k + 1, by omega, by go_num, fun j hj => ?_, trivial⟩
              by_cases hjk : j = k
              · subst hjk; exact HPP.out
              · exact HA.out j (by omega)
            case measure => simp [intOf]; omega
          · have HP := Lib.hid (Tells.no hp)
            have HF := Lib.hid (HB.out.is_false fun h => hp (h.2.2 k hlt))
            clear hp
            go_wp2_with (go_at_call 89; refine (isAscendingBelow _ _ _ false _ HROW.out HP.out).mono ?_; rintro e w' ⟨rfl, rfl⟩)
            go_ret
            exact ⟨ret_bool HF.out.symm, K1.out.bel⟩
        · obtain rfl : k = ds.length := by omega
          have HF := Lib.hid (HB.out.is_true ⟨GP1.out, GP2.out, HA.out⟩)
          go_wp2
          go_ret
          exact ⟨ret_bool HF.out.symm, K1.out.bel⟩
    · have g2' : ((ds.length : Int) == va) = false := beq_eq_false_iff_ne.2 g2
      have g2'' : ((ds.length : Int) != va) = true := bne_iff_ne.2 g2
      have HF := Lib.hid (HB.out.is_false fun h => g2 h.2.1)
      clear g2
      go_enter Try.func37, Try.ntmps37
      go_wp2_with fail
      refine (implValidInstance _ _ _ _ _ _ _ _ _ _ true _ (K0.out.r 2 rfl :) (K0.out.r 1 rfl :) G1.out).mono ?_
      rintro e w1 ⟨rfl, hb1⟩
      have K1 := Lib.hid (K0.out.below hb1)
      have c0 := K1.out.c 0 rfl
      clear hb1
      go_wp2
      go_ret
      exact ⟨ret_bool HF.out.symm, K1.out.bel⟩
  · have G1 := Lib.hid (Tells.no g1)
    have HF := Lib.hid (HB.out.is_false fun h => g1 h.1)
    clear g1
    go_enter Try.func37, Try.ntmps37
    go_wp2_with fail
    refine (implValidInstance _ _ _ _ _ _ _ _ _ _ false _ (K0.out.r 2 rfl :) (K0.out.r 1 rfl :) G1.out).mono ?_
    rintro e w1 ⟨rfl, hb1⟩
    have K1 := Lib.hid (K0.out.below hb1)
    clear hb1
    go_wp2
    go_ret
    exact ⟨ret_bool HF.out.symm, K1.out.bel⟩

end Go.Proofs.Ytiinohkkfjbfhaa
