/-
  The model's source of choices: l00From, next, pick, one. What comes is a number below the limit; nothing but the source's own block turns.
-/
import Derived.Test.YtoojgaaggdnpiaaGBase
import Derived.Lib.VarintBits
import Derived.Deep.RegionHeld3
namespace Go.Proofs.Ytoojgaaggdnpiaa
open Go.RowKit

/-- v is a slice of the bytes bs. -/
def BytesAt (w : World) (v : Value) (bs : List Int) : Prop := SlAt w v bs.length (fun i => .int .u8 (intN bs i)) ∧ (∀ k, k < bs.length → 0 ≤ intN bs k ∧ intN bs k < 256) ∧ ∀ n c, v = .slice none n c → c = 0
theorem BytesAt.below {w w' : World} {v : Value} {bs : List Int} (h : BytesAt w v bs) (hb : Below w.heap.size w w') : BytesAt w' v bs := ⟨SlAt.below h.1 hb, h.2⟩
theorem BytesAt.nil (w : World) : BytesAt w (.slice none 0 0) [] := ⟨⟨none, 0, rfl, by simp, fun h => absurd h (by simp)⟩, fun k hk => absurd hk (by simp), fun n c h => by simp only [Value.slice.injEq] at h; omega⟩
theorem BytesAt.len {w : World} {a : Option Addr} {n c : Nat} {bs : List Int} (h : BytesAt w (.slice a n c) bs) : n = bs.length := by
  obtain ⟨⟨_, _, hv, _⟩, _⟩ := h
  simp only [Value.slice.injEq] at hv
  exact hv.2.1
theorem lives_bytes (v : Value) (bs : List Int) : Lives fun w => BytesAt w v bs := fun _ _ hb h => h.below hb
theorem BytesAt.some_of {w : World} {a : Option Addr} {n c : Nat} {xs : List Int} (h : BytesAt w (.slice a n c) xs) (k : Nat) (hk : k < xs.length) :
    ∃ b off, a = some ⟨b, off, none⟩ ∧ w.cell? ⟨b, off + k, none⟩ = some (.int .u8 (intN xs k)) := by
  obtain ⟨⟨a', c', hv, hn, hc⟩, _⟩ := h
  simp only [Value.slice.injEq] at hv
  obtain ⟨rfl, rfl, rfl⟩ := hv
  obtain ⟨b, off, rfl, hcell⟩ := hc (by omega)
  exact ⟨b, off, rfl, hcell k hk⟩

theorem bytes_of_own {w : World} {B e n : Nat} {v : Value} {bs : List Int} (h : w.ownsRow B e 1 v n (bs.map (Value.int .u8))) (hr : ∀ k, k < bs.length → 0 ≤ intN bs k ∧ intN bs k < 256) : ∃ a c, v = .slice a bs.length c ∧ BytesAt w v bs := by
  rcases ownsRow_parts h with ⟨rfl, rfl, hx⟩ | ⟨g, c, rfl, _, _, _, hm, hl, hc⟩
  · obtain rfl : bs = [] := by simpa using hx
    exact ⟨none, 0, rfl, BytesAt.nil w⟩
  · obtain rfl : bs.length = n := by simpa using hl
    refine ⟨_, c, rfl, ⟨_, c, rfl, by unfold maxLen at hm; omega, fun _ => ⟨g, 0, rfl, fun i hi => ?_⟩⟩, hr, fun n c h => by simp at h⟩
    have := hc i (.int .u8 (intN bs i)) (by rw [List.getElem?_map, List.getElem?_eq_getElem hi, intN_at _ _ hi]; rfl)
    simpa using this

theorem src_byte (E : Int) : ∃ v : Nat, v < 256 ∧ wrap64 (bits BinOp.and IntKind.u64 (IntKind.u64.wrap E / 1099511627776) 255) = v := by
  have h0 : 0 ≤ IntKind.u64.wrap E ∧ IntKind.u64.wrap E < 18446744073709551616 := by rw [IntKind.wrap_u64]; omega
  have h1 : 0 ≤ IntKind.u64.wrap E / 1099511627776 ∧ IntKind.u64.wrap E / 1099511627776 < 18446744073709551616 := by omega
  have hm := bits_mask .u64 64 (by decide) wraps_u64 8 (by decide) _ h1.1 h1.2
  have hm' : bits BinOp.and IntKind.u64 (IntKind.u64.wrap E / 1099511627776) 255 = IntKind.u64.wrap E / 1099511627776 % 256 := hm
  refine ⟨(IntKind.u64.wrap E / 1099511627776 % 256).toNat, by omega, ?_⟩
  rw [hm']
  have : ∀ x : Int, 0 ≤ x → x < 256 → wrap64 x = x := fun x h h' => by rw [← IntWalk.i64_left]; exact IntWalk.i64_in _ (by omega)
  rw [this _ (by omega) (by omega)]
  omega

end Go.Proofs.Ytoojgaaggdnpiaa
