/-
  What an operation makes of tuples: ApplyToTuples of the program and of the model.
-/
import Derived.Test.YtnhamdjenmogjaaDepends
namespace Go.Proofs.Ytnhamdjenmogjaa
open Go.RowKit

/-- So many tuples, all of one length. -/
def TupsP (size cnt : Int) (xss : List (List Int)) : Prop := (xss.length : Int) = cnt ∧ ∀ j, j < xss.length → TupP size (rowN xss 0).length (rowN xss j)
/-- The values at a place. -/
def colN (xss : List (List Int)) (p : Nat) : List Int := xss.map fun xs => intN xs p
theorem colN_len (xss : List (List Int)) (p : Nat) : (colN xss p).length = xss.length := by simp [colN]
theorem colN_at (xss : List (List Int)) (p q : Nat) (h : q < xss.length) : intN (colN xss p) q = intN (rowN xss q) p := by
  rw [intN_at _ _ (by rw [colN_len]; exact h), rowN_at _ _ h]
  simp [colN]
theorem TupsP.col {size cnt : Int} {xss : List (List Int)} (h : TupsP size cnt xss) (p : Nat) (hp : p < (rowN xss 0).length) : TupP size cnt (colN xss p) := by
  refine ⟨by rw [colN_len]; exact h.1, fun q hq => ?_⟩
  rw [colN_len] at hq
  rw [colN_at _ _ _ hq]
  have h1 := h.2 q hq
  exact h1.2 p (by have := h1.1; omega)
theorem SlAt.vcell {w : World} {b off n c m : Nat} {V : Nat → Value} (h : SlAt w (.slice (some ⟨b, off, none⟩) n c) m V) (k : Nat) (hk : k < m) : w.cell? ⟨b, off + k, none⟩ = some (V k) := by
  obtain ⟨a', c', hv, hn, hc⟩ := h
  simp only [Value.slice.injEq] at hv
  obtain ⟨rfl, rfl, rfl⟩ := hv
  obtain ⟨b', off', e, h⟩ := hc (by omega)
  simp only [Option.some.injEq, Addr.mk.injEq, and_true] at e
  obtain ⟨rfl, rfl⟩ := e
  exact h k hk

/-- What is made. -/
def madeN (size : Int) (tab : List Int) (xss : List (List Int)) (k : Nat) : List Int := (List.range k).map fun p => intN tab (codeN size (colN xss p))
theorem madeN_len (size : Int) (tab : List Int) (xss : List (List Int)) (k : Nat) : (madeN size tab xss k).length = k := by simp [madeN]
theorem madeN_succ (size : Int) (tab : List Int) (xss : List (List Int)) (k : Nat) : (madeN size tab xss (k + 1)).map (Value.int .i64) = (madeN size tab xss k).map (Value.int .i64) ++ [.int .i64 (intN tab (codeN size (colN xss k)))] := by simp [madeN, List.range_succ]
theorem madeN_range (size : Int) (tab : List Int) (xss : List (List Int)) (k : Nat) : (madeN size tab xss k).map (Value.int .i64) = (List.range k).map fun p => Value.int .i64 (intN tab (codeN size (colN xss p))) := by
  unfold madeN
  rw [List.map_map]
  rfl

def mapR (F : Nat → Int) (k : Nat) : List Int := (List.range k).map F
theorem mapR_len (F : Nat → Int) (k : Nat) : (mapR F k).length = k := by simp [mapR]
theorem mapR_succ (F : Nat → Int) (k : Nat) : (mapR F (k + 1)).map (Value.int .i64) = (mapR F k).map (Value.int .i64) ++ [.int .i64 (F k)] := by simp [mapR, List.range_succ]
theorem colN_mapR (xss : List (List Int)) (p : Nat) : colN xss p = mapR (fun i => intN (rowN xss i) p) xss.length := by
  refine row_ext (by rw [colN_len, mapR_len]) fun i hi => ?_
  rw [colN_len] at hi
  have h := intN_at (mapR (fun i => intN (rowN xss i) p) xss.length) i (by rw [mapR_len]; exact hi)
  rw [colN_at _ _ _ hi, h]
  simp [mapR]

/-- What ApplyToTuples answers. -/
def ApplyToTuplesIs (size ar : Int) (tab : List Int) (xss : List (List Int)) (zs : List Int) (cd : Int) : Prop :=
  (¬ OpOk size ar tab ∧ zs = [] ∧ cd = 1) ∨ (OpOk size ar tab ∧ ¬ TupsP size ar xss ∧ zs = [] ∧ cd = 2) ∨
    (OpOk size ar tab ∧ TupsP size ar xss ∧ xss.length + (xss.map List.length).sum ≤ 1048576 ∧ zs = madeN size tab xss (rowN xss 0).length ∧ cd = 0)
theorem ApplyToTuplesIs.exists (size ar : Int) (tab : List Int) (xss : List (List Int)) (hl : xss.length + (xss.map List.length).sum ≤ 1048576) : ∃ zs cd, ApplyToTuplesIs size ar tab xss zs cd := by
  by_cases h : OpOk size ar tab
  · by_cases k : TupsP size ar xss
    · exact ⟨_, _, .inr (.inr ⟨h, k, hl, rfl, rfl⟩)⟩
    · exact ⟨_, _, .inr (.inl ⟨h, k, rfl, rfl⟩)⟩
  · exact ⟨_, _, .inl ⟨h, rfl, rfl⟩⟩
theorem ApplyToTuplesIs.small {size ar : Int} {tab : List Int} {xss : List (List Int)} {zs : List Int} {cd : Int} (h : ApplyToTuplesIs size ar tab xss zs cd) : zs.length ≤ 1048576 := by
  rcases h with ⟨_, rfl, _⟩ | ⟨_, _, rfl, _⟩ | ⟨ho, ht, hl, rfl, _⟩
  · simp
  · simp
  · rw [madeN_len]
    have h1 : 0 < xss.length := by have := ht.1; have := ho.2.1.1; omega
    have := row_len_le xss 0 h1
    omega

end Go.Proofs.Ytnhamdjenmogjaa
