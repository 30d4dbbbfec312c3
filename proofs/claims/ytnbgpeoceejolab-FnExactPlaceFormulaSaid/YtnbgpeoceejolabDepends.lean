/-
  The places on which an operation depends: DependsOn of the program and of the model.
-/
import Derived.Test.YtnbgpeoceejolabDepM
import Derived.Test.YtnbgpeoceejolabGSet
import Derived.Test.YtnbgpeoceejolabApplyOp
import Derived.Test.YtnbgpeoceejolabGBase
namespace Go.Proofs.Ytnbgpeoceejolab
open Go.RowKit

/-- What DependsOn answers. -/
def DependsOnIs (size ar : Int) (tab : List Int) (zs : List Int) (cd : Int) : Prop :=
  (¬ OpOk size ar tab ∧ zs = [] ∧ cd = 1) ∨ (OpOk size ar tab ∧ zs = depRow size.toNat ar.toNat tab ar.toNat ∧ cd = 0)
theorem DependsOnIs.exists (size ar : Int) (tab : List Int) : ∃ zs cd, DependsOnIs size ar tab zs cd := by
  by_cases h : OpOk size ar tab
  · exact ⟨_, _, .inr ⟨h, rfl, rfl⟩⟩
  · exact ⟨_, _, .inl ⟨h, rfl, rfl⟩⟩
theorem DependsOnIs.small {size ar : Int} {tab : List Int} {zs : List Int} {cd : Int} (h : DependsOnIs size ar tab zs cd) : zs.length ≤ 1048576 := by
  rcases h with ⟨_, rfl, _⟩ | ⟨ho, rfl, _⟩
  · simp
  · have := depRow_len size.toNat ar.toNat tab ar.toNat
    have := ho.2.1.2
    omega

/-- A row of its own, and a code. -/
def MadeRow2 (w : World) (zs : List Int) (cd : Int) (e : Ending) (w' : World) : Prop :=
  ∃ a n c, e = .returned (.tuple #[.slice a n c, .int .i64 cd]) ∧ OwnRowE w' w.heap.size w'.heap.size (.slice a n c) zs ∧ Below w.heap.size w w'

theorem info_int8 : (Try.prog.info? 2).map (fun i => (i.zero, i.size, i.bytes)) = some (some (.int .i64 0), 1, 8) := by kernel_rfl

theorem SlAt.cell_of {w : World} {b off n c : Nat} {xs : List Int} (h : RowAt w (.slice (some ⟨b, off, none⟩) n c) xs) (k : Nat) (hk : k < xs.length) : w.cell? ⟨b, off + k, none⟩ = some (.int .i64 (intN xs k)) := by
  obtain ⟨b', off', e, _, hc⟩ := SlAt.some_of h k hk
  simp only [Option.some.injEq, Addr.mk.injEq, and_true] at e
  obtain ⟨rfl, rfl⟩ := e
  exact hc

/-- Numbers of a list and of a cleared one. -/
theorem clear_facts (s r j k m : Nat) (hm : m = s ^ (r - 1 - k)) :
    ((j : Int) / (m : Int)) % (s : Int) = (digN s r j k : Int) ∧ 0 ≤ (j : Int) / (m : Int) ∧ (j : Int) / (m : Int) ≤ j ∧ (digN s r j k : Int) * (m : Int) ≤ j ∧ 0 ≤ (digN s r j k : Int) * (m : Int) ∧ (j : Int) - (digN s r j k : Int) * (m : Int) = (cleared s r j k : Int) := by
  have hd := dig_part s r j k
  rw [← hm] at hd
  have hc : cleared s r j k = j - digN s r j k * m := by unfold cleared; rw [← hm]
  refine ⟨?_, Int.ediv_nonneg (by omega) (by omega), ?_, ?_, Int.mul_nonneg (by omega) (by omega), ?_⟩
  · unfold digN
    rw [← hm, Int.natCast_emod, Int.natCast_ediv]
  · rw [← Int.natCast_ediv]
    have := Nat.div_le_self j m
    omega
  · rw [← Int.natCast_mul]
    omega
  · rw [hc, ← Int.natCast_mul]
    omega

theorem OwnRow.cell_of {w : World} {B g n c : Nat} {xs : List Int} (h : OwnRow w B (.slice (some ⟨g, 0, none⟩) n c) xs) (k : Nat) (hk : k < xs.length) : w.cell? ⟨g, k, none⟩ = some (.int .i64 (intN xs k)) := by
  have := SlAt.cell_of h.rowAt k hk
  rwa [Nat.zero_add] at this

theorem OwnRow.free {w : World} {B g n c : Nat} {xs : List Int} (h : OwnRow w B (.slice (some ⟨g, 0, none⟩) n c) xs) (k : Nat) : w.frozen? ⟨g, k, none⟩ = false := by
  obtain rfl : n = xs.length := by
    rcases h.rowIn with ⟨h1, _⟩ | ⟨_, _, h1, _⟩
    · cases h1
    · simp only [Value.slice.injEq] at h1; exact h1.2.1
  exact World.ownsRow.frozenAt h k

theorem digs_set_tup (s r j k : Nat) (h1 : 1 ≤ s) : TupP s r ((digs s r j).set k 0) := by
  have h := digs_tup s r j h1
  refine ⟨by rw [List.length_set]; exact h.1, fun i hi => ?_⟩
  rw [List.length_set] at hi
  by_cases hk : k < (digs s r j).length
  · rw [intN_set _ _ _ hk]
    by_cases hik : i = k
    · rw [if_pos hik]; omega
    · rw [if_neg hik]; exact h.2 i hi
  · rw [List.set_eq_of_length_le (by omega)]
    exact h.2 i hi

theorem OwnRow.set {w : World} {B g c : Nat} {xs : List Int} {n : Nat} (h : OwnRow w B (.slice (some ⟨g, 0, none⟩) n c) xs) (k : Nat) (x : Int) : OwnRow (w.setCell ⟨g, k, none⟩ (.int .i64 x)) B (.slice (some ⟨g, 0, none⟩) n c) (xs.set k x) := by
  obtain rfl : n = xs.length := by
    rcases h.rowIn with ⟨h1, _⟩ | ⟨_, _, h1, _⟩
    · cases h1
    · simp only [Value.slice.injEq] at h1; exact h1.2.1
  have := (World.ownsRow.stored h k (.int .i64 x)).1
  unfold OwnRow
  rw [List.length_set, List.map_set]
  exact this

end Go.Proofs.Ytnbgpeoceejolab
