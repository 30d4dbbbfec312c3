/-
  FnExactCodeName: at every code the program's name is the model's, and the table of names stays as it is. What it reads: the table, as the program's text lays it (tied).
-/
import Derived.Test.YtfjfkmoeaenlbaaDoorCards
import Derived.Test.YtfjfkmoeaenlbaaDoorTie
import Derived.Test.YtfjfkmoeaenlbaaDoorValid
import Derived.Deep.DeepHandedRow
import Derived.Lib.LaidTab
import Derived.ShutString
import Derived.OpenVars
namespace Go.Proofs.YtfjfkmoeaenlbaaDoor.lawCodeName
open Go.ChangeShapes Go.WideShapes Go.ChangeAt Go.RowKit
set_option linter.unusedVariables false

theorem own : ownKnob Tryd.prog.godebug = none := by kernel_rfl
theorem laidOut : laidOutB Tryd.prog = true := by kernel_rfl
theorem gTab : Tryd.prog.globalNamed "loop.example/g01085/impl.codeNames" = some 0 := by kernel_rfl

/-- The name of a code; empty where it is none. -/
def nameB (n : Int) : ByteArray := match n with
  | 0 => ⟨#[111, 107]⟩
  | 1 => ⟨#[105, 110, 118, 97, 108, 105, 100]⟩
  | 2 => ⟨#[114, 97, 110, 103, 101]⟩
  | 3 => ⟨#[108, 105, 109, 105, 116]⟩
  | 4 => ⟨#[115, 116, 97, 116, 101]⟩
  | 5 => ⟨#[115, 121, 110, 116, 97, 120]⟩
  | 6 => ⟨#[110, 111, 116, 102, 111, 117, 110, 100]⟩
  | 7 => ⟨#[98, 117, 100, 103, 101, 116]⟩
  | 8 => ⟨#[112, 114, 111, 111, 102]⟩
  | _ => ⟨#[]⟩
theorem nameB_no (n : Int) (h : n < 0 ∨ 8 < n) : nameB n = ⟨#[]⟩ := by
  unfold nameB
  split <;> first | rfl | omega

set_option maxHeartbeats 1000000 in
set_option maxRecDepth 100000 in
theorem specName (n : Int) (w : World) : Calls Tryd.prog 8 #[.int .i64 n] w fun e w' => e = .returned (.string (nameB n)) ∧ Below w.heap.size w w' := by
  by_cases h : 0 ≤ n ∧ n ≤ 8
  · have hc : n = 0 ∨ n = 1 ∨ n = 2 ∨ n = 3 ∨ n = 4 ∨ n = 5 ∨ n = 6 ∨ n = 7 ∨ n = 8 := by omega
    clear h
    rcases hc with rfl | rfl | rfl | rfl | rfl | rfl | rfl | rfl | rfl
    all_goals
      go_enter Tryd.func8, Tryd.ntmps8
      go_wp2_with (go_at_call 27; refine (l00In _ _ _ true _ (Tells.yes ⟨by omega, by omega⟩)).mono ?_; rintro e w' ⟨rfl, rfl⟩)
      go_ret
      exact ⟨rfl, (Below.refl _ _).alloc (Nat.le_refl _) _⟩
  · have hn := Lib.hid (nameB_no n (by omega))
    have hb := Lib.hid (Tells.no (p := InP n 0 8) h)
    clear h
    go_enter Tryd.func8, Tryd.ntmps8
    go_wp2_with (go_at_call 27; refine (l00In _ _ _ false _ hb.out).mono ?_; rintro e w' ⟨rfl, rfl⟩)
    go_ret
    exact ⟨congrArg (fun s => Ending.returned (Value.string s)) hn.out.symm, (Below.refl _ _).alloc (Nat.le_refl _) _⟩

set_option maxHeartbeats 1000000 in
set_option maxRecDepth 100000 in
theorem implName (n : Int) (w : World) (g0 : w.cell? ⟨0, 0, none⟩ = some (.string ⟨#[111, 107]⟩)) (g1 : w.cell? ⟨0, 1, none⟩ = some (.string ⟨#[105, 110, 118, 97, 108, 105, 100]⟩)) (g2 : w.cell? ⟨0, 2, none⟩ = some (.string ⟨#[114, 97, 110, 103, 101]⟩)) (g3 : w.cell? ⟨0, 3, none⟩ = some (.string ⟨#[108, 105, 109, 105, 116]⟩)) (g4 : w.cell? ⟨0, 4, none⟩ = some (.string ⟨#[115, 116, 97, 116, 101]⟩)) (g5 : w.cell? ⟨0, 5, none⟩ = some (.string ⟨#[115, 121, 110, 116, 97, 120]⟩)) (g6 : w.cell? ⟨0, 6, none⟩ = some (.string ⟨#[110, 111, 116, 102, 111, 117, 110, 100]⟩)) (g7 : w.cell? ⟨0, 7, none⟩ = some (.string ⟨#[98, 117, 100, 103, 101, 116]⟩)) (g8 : w.cell? ⟨0, 8, none⟩ = some (.string ⟨#[112, 114, 111, 111, 102]⟩)) :
    Calls Tryd.prog 9 #[.int .i64 n] w fun e w' => e = .returned (.string (nameB n)) ∧ w = w' := by
  by_cases h : 0 ≤ n ∧ n ≤ 8
  · have hc : n = 0 ∨ n = 1 ∨ n = 2 ∨ n = 3 ∨ n = 4 ∨ n = 5 ∨ n = 6 ∨ n = 7 ∨ n = 8 := by omega
    clear h
    rcases hc with rfl | rfl | rfl | rfl | rfl | rfl | rfl | rfl | rfl
    all_goals
      go_enter Tryd.func9, Tryd.ntmps9
      go_wp2
      go_ret
      exact ⟨rfl, rfl⟩
  · have hn := Lib.hid (nameB_no n (by omega))
    clear g0 g1 g2 g3 g4 g5 g6 g7 g8
    by_cases h0 : n < 0
    · clear h
      go_enter Tryd.func9, Tryd.ntmps9
      go_wp2
      go_ret
      exact ⟨congrArg (fun s => Ending.returned (Value.string s)) hn.out.symm, rfl⟩
    · have h9 : 9 ≤ n := by omega
      clear h
      go_enter Tryd.func9, Tryd.ntmps9
      go_wp2
      go_ret
      exact ⟨congrArg (fun s => Ending.returned (Value.string s)) hn.out.symm, rfl⟩

set_option maxHeartbeats 1000000 in
theorem walk (n : Int) (w : World) (g0 : w.cell? ⟨0, 0, none⟩ = some (.string ⟨#[111, 107]⟩)) (g1 : w.cell? ⟨0, 1, none⟩ = some (.string ⟨#[105, 110, 118, 97, 108, 105, 100]⟩)) (g2 : w.cell? ⟨0, 2, none⟩ = some (.string ⟨#[114, 97, 110, 103, 101]⟩)) (g3 : w.cell? ⟨0, 3, none⟩ = some (.string ⟨#[108, 105, 109, 105, 116]⟩)) (g4 : w.cell? ⟨0, 4, none⟩ = some (.string ⟨#[115, 116, 97, 116, 101]⟩)) (g5 : w.cell? ⟨0, 5, none⟩ = some (.string ⟨#[115, 121, 110, 116, 97, 120]⟩)) (g6 : w.cell? ⟨0, 6, none⟩ = some (.string ⟨#[110, 111, 116, 102, 111, 117, 110, 100]⟩)) (g7 : w.cell? ⟨0, 7, none⟩ = some (.string ⟨#[98, 117, 100, 103, 101, 116]⟩)) (g8 : w.cell? ⟨0, 8, none⟩ = some (.string ⟨#[112, 114, 111, 111, 102]⟩)) :
    Calls Tryd.prog 3 #[.int .i64 n] w fun e w' => e = .returned (.bool true) ∧ Below w.heap.size w w' := by
  go_enter Tryd.func3, Tryd.ntmps3
  go_wp2_with fail
  refine (specName n w).mono ?_
  rintro e w1 ⟨rfl, hb⟩
  have HB := Lib.hid hb
  go_wp2_with fail
  refine (implName n w1 (below_cell hb g0) (below_cell hb g1) (below_cell hb g2) (below_cell hb g3) (below_cell hb g4) (below_cell hb g5) (below_cell hb g6) (below_cell hb g7) (below_cell hb g8)).mono ?_
  rintro e w2 ⟨rfl, rfl⟩
  clear hb g0 g1 g2 g3 g4 g5 g6 g7 g8
  go_wp2
  go_ret
  exact ⟨rfl, HB.out⟩

/-- An array of strings that reads as the list holds them, cell for cell. -/
theorem cells_of_strs {H : Type} {enc : TypeId × Value → H} {P : Program} {w : World} {base : Nat} {sp : Nat → Bool} {held : Bool} {fuel : Nat} {t e : TypeId} {n : Nat} {cs : List Value} {ss : List (List UInt8)} {p : List MemPlace}
    (ht : P.underlying t = some (.array n e)) (he : P.underlying e = some .string) (hce : P.cellsOf e = 1)
    (h : DataW.trod enc P w base sp held fuel t cs = some (.agg (ss.map fun s => .lit (.string s)), p)) (i : Nat) (s : List UInt8) (hs : ss[i]? = some s) : cs[i]? = some (.string ⟨s.toArray⟩) := by
  cases fuel with
  | zero => simp [DataW.trod] at h
  | succ fuel =>
    simp only [DataW.trod, ht, hce, Nat.mul_one] at h
    split at h
    · obtain ⟨xs, hm, hx⟩ := Option.map_eq_some_iff.1 h
      have hxs : xs.map (·.1) = ss.map fun s => (DataW.lit (.string s) : DataW H) := by
        have := congrArg Prod.fst hx
        simpa using this
      have hxl : xs.length = n := by simpa using Lib.mapM_length hm
      have hsl : ss.length = n := by
        have := congrArg List.length hxs
        simp at this
        omega
      have hi : i < n := by have := (List.getElem?_eq_some_iff.1 hs).1; omega
      obtain ⟨b, hb, hf⟩ := Lib.mapM_at hm i i (by simp [hi])
      obtain ⟨z, hc, rfl, _⟩ := DataW.trod_string he hf
      have h1 : cs[i]? = some (.string z) := by
        have := congrArg (·[0]?) hc
        simpa [List.getElem?_take, List.getElem?_drop] using this
      have h2 : (xs.map (·.1))[i]? = some (DataW.lit (.string z.data.toList) : DataW H) := by simp [hb]
      rw [hxs] at h2
      simp only [List.getElem?_map, hs, Option.map_some, Option.some.injEq, DataW.lit.injEq, Lit.string.injEq] at h2
      rw [h1, h2]
    · cases h

theorem table {W : World} (h : laidMetH Tryd.prog Rows.fnExactCodeNameRow.laid W) (i : Nat) (s : List UInt8) (hs : [[111, 107], [105, 110, 118, 97, 108, 105, 100], [114, 97, 110, 103, 101], [108, 105, 109, 105, 116], [115, 116, 97, 116, 101], [115, 121, 110, 116, 97, 120], [110, 111, 116, 102, 111, 117, 110, 100], [98, 117, 100, 103, 101, 116], [112, 114, 111, 111, 102]][i]? = some s) : W.cell? ⟨0, i, none⟩ = some (.string ⟨s.toArray⟩) := by
  obtain ⟨ps, ⟨g', t', cs, fuel, p, q, hg', ht', hvar, hd, _, _⟩, _⟩ := h
  obtain rfl := Option.some.inj (gTab.symm.trans hg')
  obtain rfl := Option.some.inj ((show (Tryd.prog.globals[0]?).map (·.type) = some 46 by kernel_rfl).symm.trans ht')
  rw [World.var?_cell gTab hvar i]
  have := cells_of_strs (ss := [[111, 107], [105, 110, 118, 97, 108, 105, 100], [114, 97, 110, 103, 101], [108, 105, 109, 105, 116], [115, 116, 97, 116, 101], [115, 121, 110, 116, 97, 120], [110, 111, 116, 102, 111, 117, 110, 100], [98, 117, 100, 103, 101, 116], [112, 114, 111, 111, 102]]) Tryd.underlying46 Tryd.underlying9 (by kernel_rfl) hd i s hs
  simpa using this

theorem contract (H : Type) (enc : TypeId × Value → H) (W : World) (base : Nat) (args : Array Value) (ds gs : List (DataW H)) (before : List MemPlace)
    (hval : ∀ (j : Nat) t v, Tryd.f3.params[j]? = some t → args[j]? = some v → Value.okWide Tryd.prog W .any base t v)
    (hW : DataW.Whole enc Tryd.prog Tryd.f3.params.toList Rows.fnExactCodeNameSpec.vars false W args.toList ds gs before) (hL : laidMetH Tryd.prog Rows.fnExactCodeNameRow.laid W) :
    Calls Tryd.prog 3 args W fun e W' => ∃ v, e = .returned v ∧ Rows.fnExactCodeNameSpec.post enc Tryd.prog Tryd.f3 false true false false W args v W' := by
  have hW' := hW
  obtain ⟨p, q, hA0, hV, rfl, hfz, hnd⟩ := hW
  have hA : DataW.TrodAll enc Tryd.prog W 0 (fun _ => true) true Tryd.f3.params.toList args.toList ds p := hA0
  rw [Tryd.params3] at hA hval
  obtain ⟨v0, vs0, d0, ds0, p0, q0, hargs, rfl, rfl, h0, r0⟩ := trodAll_cons hA
  obtain ⟨rfl, rfl, rfl⟩ := trodAll_nil r0
  obtain rfl : args = #[v0] := by cases args; simp_all
  have hV0 := hV
  obtain ⟨_, _, _, _, g1, _, rfl, _⟩ := trodVars_one hV
  obtain ⟨a0, rfl, rfl, rfl, w0⟩ := open_int Tryd.underlying2 (hval 0 2 v0 rfl rfl) h0
  clear hA0
  refine (walk a0 W (table hL 0 _ rfl) (table hL 1 _ rfl) (table hL 2 _ rfl) (table hL 3 _ rfl) (table hL 4 _ rfl) (table hL 5 _ rfl) (table hL 6 _ rfl) (table hL 7 _ rfl) (table hL 8 _ rfl)).mono fun e W' ⟨he, bel⟩ => ?_
  subst he
  exact ⟨_, rfl, _, _, _, [], _, _, hW', trodAll_mk1 (shut_bool Tryd.underlying4 _), (trodAll_cons_mk (shut_int Tryd.underlying2 w0) trodAll_mk0), Below.trodVars laidOut bel (by kernel_rfl) hV0, bel.frame _, fun h => by cases h⟩

noncomputable def laidWorld (os : Os) : World :=
  { World.holding Tryd.prog os ⟨#[], #[], []⟩ with heap := (World.holding Tryd.prog os ⟨#[], #[], []⟩).heap.modify 0 fun
      | .cells _ t frozen => .cells #[.string ⟨#[111, 107]⟩, .string ⟨#[105, 110, 118, 97, 108, 105, 100]⟩, .string ⟨#[114, 97, 110, 103, 101]⟩, .string ⟨#[108, 105, 109, 105, 116]⟩, .string ⟨#[115, 116, 97, 116, 101]⟩, .string ⟨#[115, 121, 110, 116, 97, 120]⟩, .string ⟨#[110, 111, 116, 102, 111, 117, 110, 100]⟩, .string ⟨#[98, 117, 100, 103, 101, 116]⟩, .string ⟨#[112, 114, 111, 111, 102]⟩] t frozen
      | o => o }
theorem laid_met (os : Os) : laidMet Tryd.prog Rows.fnExactCodeNameRow.laid ((laidWorld os).forCall (fun _ _ => 0) ⟨#[], #[.int .i64 0], []⟩).memory :=
  laidMet_of_run' 8 (by kernel_rfl) (by kernel_rfl)
theorem reads (os : Os) {H : Type} (enc : TypeId × Value → H) : ∃ places, DataW.whole enc Tryd.prog ((laidWorld os).forCall (fun _ _ => 0) ⟨#[], #[.int .i64 0], []⟩).memory Tryd.f3.params.toList Rows.fnExactCodeNameSpec.vars false #[Value.int .i64 0].toList 8 = some ([.lit (.int .i64 0)], [Rows.laid_loop_example_g01085_impl_codeNames], places) :=
  ⟨MemPlace.row ⟨0, 0, none⟩ 9, by kernel_rfl⟩

set_option maxRecDepth 100000 in
theorem lifted (os : Os) (started : os.Started) (H : Type) (enc : TypeId × Value → H) (F : Stop.Interp) :
    ReturnsInHanded {} Tryd.checked os 3 .any ((OpenSpec.ofChange Rows.fnExactCodeNameSpec).preRow enc Tryd.prog Tryd.f3 Rows.fnExactCodeNameRow.domain false Rows.fnExactCodeNameRow.laid) (((OpenSpec.ofChange Rows.fnExactCodeNameSpec).at F).post enc Tryd.prog Tryd.f3 false true false false) := by
  obtain ⟨places, hx⟩ := reads os enc
  refine returnsInHanded_of_row (C := Tryd.checked) (s := OpenSpec.ofChange Rows.fnExactCodeNameSpec) own started (by kernel_rfl) Tryd.func3
    (witness_row_at (enc := enc) (C := Tryd.checked) false (laidWorld os) #[.int .i64 0] rfl (by kernel_rfl) (by kernel_rfl) (by kernel_rfl)
      (OpenSpec.preRow_of_cond 8 hx (by kernel_rfl) (fun k hk => by cases hk) (by kernel_rfl) (laid_met os))) ?_
  intro W base args ds gs before hval hW _ _ _ hL _ _
  exact contract H enc W base args ds gs before hval hW hL

theorem said : Rows.FnExactCodeNameSaid :=
  OpenClaim.holds_of_cond 3 Tryd.f3 rfl rfl rfl rfl rfl rfl rfl ⟨rfl, rfl, rfl, rfl, rfl⟩ rfl rfl rfl rfl rfl (by kernel_rfl) Tryd.func3 (by kernel_rfl)
    (of_decide_eq_true (by kernel_rfl)) (by unfold Func.isWrapper; first | (rw [if_pos (by decide +kernel)]; kernel_rfl) | (rw [if_neg (by decide +kernel)]; exact ⟨rfl, rfl⟩))
    (fun os started H enc _ F => by rw [OpenClaim.pre_eq_preRow]; exact lifted os started H enc F)

theorem plain (f : FuncId) (fn : Func) (hf : Tryd.pinned.checked.prog.funcNamed "loop.example/g01085/laws.FnExactCodeName" = some f) (hfn : Tryd.pinned.checked.prog.funcs[f]? = some fn) :
    false = Tryd.pinned.checked.prog.looks [] ∧ ∀ (j : Nat) t, fn.params[j]? = some t → Tryd.pinned.checked.prog.wantsStandIn t = false := by
  obtain rfl : f = 3 := Option.some.inj ((show Tryd.prog.funcNamed "loop.example/g01085/laws.FnExactCodeName" = some 3 by kernel_rfl).symm.trans hf) |>.symm
  obtain rfl : fn = Tryd.f3 := (Option.some.inj (Tryd.func3.symm.trans hfn)).symm
  refine ⟨by kernel_rfl, fun j t ht => ?_⟩
  rw [Tryd.params3] at ht
  obtain rfl : t = 2 := by simpa using Array.mem_of_getElem? ht
  exact (show Tryd.prog.wantsStandIn 2 = false by kernel_rfl)

theorem card : Rows.FnExactCodeNameCardSaid :=
  Claim7.holds_tied_plain_at .later [] _ _ _ _ said (fun _ h => by cases h) (by kernel_rfl) (fun _ h => by cases h) fnExactCodeName_row_tie rfl ⟨rfl, rfl⟩ (by kernel_rfl) rfl plain (by kernel_rfl)

end Go.Proofs.YtfjfkmoeaenlbaaDoor.lawCodeName
