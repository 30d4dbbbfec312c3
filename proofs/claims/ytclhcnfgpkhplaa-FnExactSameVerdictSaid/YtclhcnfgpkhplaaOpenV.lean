/-
  The laws' arguments, opened: lists of steps, and verdicts by value.
-/
import Derived.Test.YtclhcnfgpkhplaaOpenOp
import Derived.Test.YtclhcnfgpkhplaaSameV4
import Derived.Test.YtclhcnfgpkhplaaOpenT
namespace Go.Proofs.Ytclhcnfgpkhplaa
open Go.ChangeShapes Go.WideShapes Go.ChangeAt Go.RowKit Go.Joins
open Go.Deep (choose_lt open_slice oneCellFields hone_of add_add)

theorem cells_arcStep : Try.prog.cellsOf 178 = 3 := by kernel_rfl
theorem cells_pairStep : Try.prog.cellsOf 180 = 3 := by kernel_rfl
theorem cells_verdict : Try.prog.cellsOf 68 = 5 := by kernel_rfl

theorem array5 {α : Type} {cs : Array α} (h : cs.size = 5) : ∃ c0 c1 c2 c3 c4, cs = #[c0, c1, c2, c3, c4] := by
  obtain ⟨l⟩ := cs
  match l, h with
  | [c0, c1, c2, c3, c4], _ => exact ⟨c0, c1, c2, c3, c4, rfl⟩

section
variable {H : Type} {enc : TypeId × Value → H} {w : World} {base : Nat} {held : Bool}

/-- n triples as one list -/
def flat3 (y : Nat → Int × Int × Int) (n : Nat) : List Int := (List.range (n * 3)).map fun i => if i % 3 = 0 then (y (i / 3)).1 else if i % 3 = 1 then (y (i / 3)).2.1 else (y (i / 3)).2.2
theorem flat3_len (y : Nat → Int × Int × Int) (n : Nat) : (flat3 y n).length = n * 3 := by simp [flat3]
theorem flat3_at (y : Nat → Int × Int × Int) {n i : Nat} (h : i < n * 3) : intN (flat3 y n) i = if i % 3 = 0 then (y (i / 3)).1 else if i % 3 = 1 then (y (i / 3)).2.1 else (y (i / 3)).2.2 := by
  rw [intN_at _ _ (by rw [flat3_len]; exact h)]
  simp [flat3]

set_option maxRecDepth 100000 in
/-- A slice of structs of three numbers that came in. -/
theorem open_steps {T E : TypeId} {k0 k1 k2 : TypeId} {f0 f1 f2 : Field} (hT : Try.prog.underlying T = some (.slice E)) (hE : Try.prog.underlying E = some (.struct #[f0, f1, f2])) (ce : Try.prog.cellsOf E = 3)
    (o0 : f0.offset = 0) (o1 : f1.offset = 1) (o2 : f2.offset = 2) (t0 : f0.type = k0) (t1 : f1.type = k1) (t2 : f2.type = k2)
    (u0 : Try.prog.underlying k0 = some (.int .i64)) (u1 : Try.prog.underlying k1 = some (.int .i64)) (u2 : Try.prog.underlying k2 = some (.int .i64))
    (c0 : Try.prog.cellsOf k0 = 1) (c1 : Try.prog.cellsOf k1 = 1) (c2 : Try.prog.cellsOf k2 = 1)
    {fuel : Nat} {v : Value} {x : DataW H × List MemPlace} (h : DataW.trod enc Try.prog w base (fun _ => true) held fuel T [v] = some x) :
    ∃ a n c xs, v = .slice a n c ∧ TripAt w (.slice a n c) n xs := by
  rcases open_slice hT h with ⟨hcs, _⟩ | ⟨a, len, cap, m, n, D, Pl, hcs, hb, hl, hm, hmm, _, hx⟩
  · obtain rfl : v = .slice none 0 0 := by simpa using hcs
    exact ⟨none, 0, 0, [], rfl, none, 0, rfl, rfl, by omega, fun h => absurd h (by omega)⟩
  · obtain rfl : v = .slice (some a) len cap := by simpa using hcs
    have hlm : len ≤ m := by rw [hmm]; split <;> omega
    have each : ∀ i, i < len → ∃ q : Int × Int × Int, w.cell? (a.add (i * 3)) = some (.int .i64 q.1) ∧ w.cell? (a.add (i * 3 + 1)) = some (.int .i64 q.2.1) ∧ w.cell? (a.add (i * 3 + 2)) = some (.int .i64 q.2.2) := by
      intro i hi
      obtain ⟨cs', h1, h2⟩ := hx i (by omega)
      rw [ce] at h1
      obtain ⟨_, hlen, hcell⟩ := World.cells?_some h1
      obtain ⟨xs, k, hk, hxy, _, hxl, hf⟩ := DataW.trod_struct hE h2
      match xs, hxl, cs', hlen with
      | [y0, y1, y2], _, [v0, v1, v2], _ =>
        have g0 := hf 0 f0 rfl
        have g1 := hf 1 f1 rfl
        have g2 := hf 2 f2 rfl
        rw [t0] at g0
        rw [t1] at g1
        rw [t2] at g2
        simp [o0, o1, o2, c0, c1, c2] at g0 g1 g2
        have e0 := hcell 0 (by omega)
        have e1 := hcell 1 (by omega)
        have e2 := hcell 2 (by omega)
        rw [add_add] at e0 e1 e2
        obtain ⟨q0, r0, _, _⟩ := DataW.trod_int u0 g0
        obtain ⟨q1, r1, _, _⟩ := DataW.trod_int u1 g1
        obtain ⟨q2, r2, _, _⟩ := DataW.trod_int u2 g2
        simp at r0 r1 r2
        subst r0 r1 r2
        exact ⟨(q0, q1, q2), by simpa using e0, by simpa using e1, by simpa using e2⟩
    obtain ⟨y, hy⟩ := choose_lt each
    refine ⟨some a, len, cap, flat3 y len, rfl, some a, cap, rfl, flat3_len _ _, by unfold maxLen at hm; omega, fun h0 => ?_⟩
    obtain ⟨b, off, rfl⟩ := add_none (by simpa using (hy 0 (by omega)).1)
    refine ⟨b, off, rfl, fun i hi => ?_⟩
    rw [flat3_at y hi]
    obtain ⟨d0, d1, d2⟩ := hy (i / 3) (by omega)
    rw [add_plain] at d0 d1 d2
    by_cases e0 : i % 3 = 0
    · rw [if_pos e0, ← d0]; congr 2; omega
    · by_cases e1 : i % 3 = 1
      · rw [if_neg e0, if_pos e1, ← d1]; congr 2; omega
      · rw [if_neg e0, if_neg e1, ← d2]; congr 2; omega

set_option maxRecDepth 100000 in
theorem open_arcSteps {fuel : Nat} {v : Value} {x : DataW H × List MemPlace} (h : DataW.trod enc Try.prog w base (fun _ => true) held fuel 65 [v] = some x) :
    ∃ a n c xs, v = .slice a n c ∧ TripAt w (.slice a n c) n xs :=
  open_steps Try.underlying65 Try.underlying178 cells_arcStep rfl rfl rfl rfl rfl rfl Try.underlying2 Try.underlying2 Try.underlying2 cells_int cells_int cells_int h
set_option maxRecDepth 100000 in
theorem open_pairSteps {fuel : Nat} {v : Value} {x : DataW H × List MemPlace} (h : DataW.trod enc Try.prog w base (fun _ => true) held fuel 66 [v] = some x) :
    ∃ a n c xs, v = .slice a n c ∧ TripAt w (.slice a n c) n xs :=
  open_steps Try.underlying66 Try.underlying180 cells_pairStep rfl rfl rfl rfl rfl rfl Try.underlying2 Try.underlying2 Try.underlying2 cells_int cells_int cells_int h

/-- A struct of five one-cell fields, by value. -/
theorem open_agg5 {P : Program} {sp : Nat → Bool} {r : Reach} {b0 : Nat} {t : TypeId} {f0 f1 f2 f3 f4 : Field} {v : Value} {d : DataW H} {p : List MemPlace} (hs : P.underlying t = some (.struct #[f0, f1, f2, f3, f4])) (hone : oneCellFields P #[f0, f1, f2, f3, f4] = true) (hC : P.cellsOf t = 5)
    (hv : Value.okWide P w r b0 t v) (h : DataW.Trod enc P w base sp held t v d p) :
    ∃ (v0 v1 v2 v3 v4 : Value) (y0 y1 y2 y3 y4 : DataW H × List MemPlace) (n : Nat), v = .agg #[v0, v1, v2, v3, v4] ∧
      DataW.trod enc P w base sp held n f0.type [v0] = some y0 ∧ DataW.trod enc P w base sp held n f1.type [v1] = some y1 ∧ DataW.trod enc P w base sp held n f2.type [v2] = some y2 ∧ DataW.trod enc P w base sp held n f3.type [v3] = some y3 ∧ DataW.trod enc P w base sp held n f4.type [v4] = some y4 := by
  obtain ⟨cs, rfl, hsz⟩ := okWide_struct hs hv
  obtain ⟨c0, c1, c2, c3, c4, rfl⟩ := array5 (hsz.trans hC)
  obtain ⟨fuel, hf⟩ := h
  obtain ⟨xs, n, _, _, _, hlen, hf⟩ := DataW.trod_struct hs hf
  obtain ⟨o0, k0⟩ := hone_of hone 0 f0 rfl
  obtain ⟨o1, k1⟩ := hone_of hone 1 f1 rfl
  obtain ⟨o2, k2⟩ := hone_of hone 2 f2 rfl
  obtain ⟨o3, k3⟩ := hone_of hone 3 f3 rfl
  obtain ⟨o4, k4⟩ := hone_of hone 4 f4 rfl
  match xs, hlen with
  | [y0, y1, y2, y3, y4], _ =>
    have h0 := hf 0 f0 rfl
    have h1 := hf 1 f1 rfl
    have h2 := hf 2 f2 rfl
    have h3 := hf 3 f3 rfl
    have h4 := hf 4 f4 rfl
    exact ⟨c0, c1, c2, c3, c4, y0, y1, y2, y3, y4, n, rfl, by simpa [Value.cells, o0, k0] using h0, by simpa [Value.cells, o1, k1] using h1, by simpa [Value.cells, o2, k2] using h2, by simpa [Value.cells, o3, k3] using h3, by simpa [Value.cells, o4, k4] using h4⟩

set_option maxRecDepth 100000 in
/-- A verdict that came in, by value. -/
theorem open_verdict {r : Reach} {b0 : Nat} {v : Value} {d : DataW H} {p : List MemPlace} (hv : Value.okWide Try.prog w r b0 68 v)
    (h : DataW.Trod enc Try.prog w base (fun _ => true) held 68 v d p) :
    ∃ (q : VA) (c : VC), v = .agg #[.int .i64 c.k, .slice q.a1 q.n1 q.c1, .slice q.a2 q.n2 q.c2, .slice q.a3 q.n3 q.c3, .slice q.a4 q.n4 q.c4] ∧ F4 w q c := by
  obtain ⟨v0, v1, v2, v3, v4, y0, y1, y2, y3, y4, m, rfl, h0, h1, h2, h3, h4⟩ := open_agg5 Try.underlying68 (by kernel_rfl) cells_verdict hv h
  obtain ⟨k, e0, _, _⟩ := DataW.trod_int Try.underlying2 h0
  obtain ⟨a1, n1, c1, vs, rfl, g1⟩ := open_rowT h1
  obtain ⟨a2, n2, c2, ts, rfl, g2⟩ := open_arcSteps h2
  obtain ⟨a3, n3, c3, ps, rfl, g3⟩ := open_pairSteps h3
  obtain ⟨a4, n4, c4, us, rfl, g4⟩ := open_rowT h4
  simp at e0
  subst e0
  exact ⟨⟨a1, n1, c1, a2, n2, c2, a3, n3, c3, a4, n4, c4⟩, ⟨k, vs, n2, ts, n3, ps, us⟩, rfl, g1, g2, g3, g4⟩

end
end Go.Proofs.Ytclhcnfgpkhplaa
