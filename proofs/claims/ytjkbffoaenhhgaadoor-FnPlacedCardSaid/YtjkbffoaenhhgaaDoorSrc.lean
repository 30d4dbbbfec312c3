/-
  The model's source of choices: l00From, next, pick, one. What comes is a number below the limit; nothing but the source's own block turns.
-/
import Derived.Test.YtjkbffoaenhhgaaDoorGBase
import Derived.Lib.VarintBits
import Derived.Deep.RegionHeld3
namespace Go.Proofs.YtjkbffoaenhhgaaDoor
open Go.RowKit

/-- v is a slice of the bytes bs. -/
def BytesAt (w : World) (v : Value) (bs : List Int) : Prop := SlAt w v bs.length (fun i => .int .u8 (intN bs i)) ∧ (∀ k, k < bs.length → 0 ≤ intN bs k ∧ intN bs k < 256) ∧ ∀ n c, v = .slice none n c → c = 0
theorem BytesAt.below {w w' : World} {v : Value} {bs : List Int} (h : BytesAt w v bs) (hb : Below w.heap.size w w') : BytesAt w' v bs := ⟨SlAt.below h.1 hb, h.2⟩
theorem BytesAt.nil (w : World) : BytesAt w (.slice none 0 0) [] := ⟨⟨none, 0, rfl, by simp, fun h => absurd h (by simp)⟩, fun k hk => absurd hk (by simp), fun n c h => by simp only [Value.slice.injEq] at h; omega⟩
theorem BytesAt.len {w : World} {a : Option Addr} {n c : Nat} {bs : List Int} (h : BytesAt w (.slice a n c) bs) : n = bs.length := by
  obtain ⟨⟨_, _, hv, _⟩, _⟩ := h
  simp only [Value.slice.injEq] at hv
  exact hv.2.1
theorem lives_bytes (v : Value) (bs : List Int) : Lives fun w => BytesAt w v bs := fun _ _ hb h => h.below hb
theorem BytesAt.some_of {w : World} {a : Option Addr} {n c : Nat} {xs : List Int} (h : BytesAt w (.slice a n c) xs) (k : Nat) (hk : k < xs.length) :
    ∃ b off, a = some ⟨b, off, none⟩ ∧ w.cell? ⟨b, off + k, none⟩ = some (.int .u8 (intN xs k)) := by
  obtain ⟨⟨a', c', hv, hn, hc⟩, _⟩ := h
  simp only [Value.slice.injEq] at hv
  obtain ⟨rfl, rfl, rfl⟩ := hv
  obtain ⟨b, off, rfl, hcell⟩ := hc (by omega)
  exact ⟨b, off, rfl, hcell k hk⟩

theorem bytes_of_own {w : World} {B e n : Nat} {v : Value} {bs : List Int} (h : w.ownsRow B e 1 v n (bs.map (Value.int .u8))) (hr : ∀ k, k < bs.length → 0 ≤ intN bs k ∧ intN bs k < 256) : ∃ a c, v = .slice a bs.length c ∧ BytesAt w v bs := by
  rcases ownsRow_parts h with ⟨rfl, rfl, hx⟩ | ⟨g, c, rfl, _, _, _, hm, hl, hc⟩
  · obtain rfl : bs = [] := by simpa using hx
    exact ⟨none, 0, rfl, BytesAt.nil w⟩
  · obtain rfl : bs.length = n := by simpa using hl
    refine ⟨_, c, rfl, ⟨_, c, rfl, by unfold maxLen at hm; omega, fun _ => ⟨g, 0, rfl, fun i hi => ?_⟩⟩, hr, fun n c h => by simp at h⟩
    have := hc i (.int .u8 (intN bs i)) (by rw [List.getElem?_map, List.getElem?_eq_getElem hi, intN_at _ _ hi]; rfl)
    simpa using this

/-- The source of the bytes bs in block p, k numbers taken. -/
structure SrcAt (w : World) (p : Nat) (a : Option Addr) (n c : Nat) (bs : List Int) (k : Nat) : Prop where
  box : ∃ g : Int, w.heap[p]? = some (.cells #[.slice a n c, .int .i64 k, .int .u64 g] 66 (0, 0))
  code : BytesAt w (.slice a n c) bs
  far : ∀ b off, 0 < bs.length → a = some ⟨b, off, none⟩ → b ≠ p

theorem SrcAt.lt {w : World} {p : Nat} {a : Option Addr} {n c : Nat} {bs : List Int} {k : Nat} (h : SrcAt w p a n c bs k) : p < w.heap.size := by
  obtain ⟨g, hg⟩ := h.box
  exact (Array.getElem?_eq_some_iff.1 hg).1
theorem SrcAt.below {w w' : World} {p : Nat} {a : Option Addr} {n c : Nat} {bs : List Int} {k : Nat} (h : SrcAt w p a n c bs k) (hb : Below w.heap.size w w') : SrcAt w' p a n c bs k := by
  obtain ⟨g, hg⟩ := h.box
  exact ⟨⟨g, by rw [hb.block p h.lt]; exact hg⟩, h.code.below hb, h.far⟩
theorem SrcAt.only {S : Nat → Prop} {w w' : World} {p : Nat} {a : Option Addr} {n c : Nat} {bs : List Int} {k : Nat} (h : SrcAt w p a n c bs k) (ho : Only S w w') (h1 : ¬ S p) (h2 : ∀ b off, a = some ⟨b, off, none⟩ → ¬ S b) : SrcAt w' p a n c bs k := by
  obtain ⟨g, hg⟩ := h.box
  refine ⟨⟨g, by rw [ho.block p h.lt h1]; exact hg⟩, ⟨?_, h.code.2⟩, h.far⟩
  obtain ⟨a0, c0, hv, hn, hc⟩ := h.code.1
  refine ⟨a0, c0, hv, hn, fun h0 => ?_⟩
  obtain ⟨b, off, rfl, hcell⟩ := hc h0
  simp only [Value.slice.injEq] at hv
  obtain ⟨rfl, _, _⟩ := hv
  refine ⟨b, off, rfl, fun i hi => ?_⟩
  have := hcell i hi
  rw [World.cell?_of_block (ho.block b (cell_block_lt this) (h2 b off rfl))]
  exact this

theorem SrcAt.start {w : World} {a : Option Addr} {n c : Nat} {bs : List Int} (h : BytesAt w (.slice a n c) bs) : SrcAt (w.alloc (.cells #[.slice a n c, .int .i64 0, .int .u64 0] 66)) w.heap.size a n c bs 0 := by
  refine ⟨⟨0, heap_alloc_new w _⟩, h.below ((Below.refl _ _).alloc (Nat.le_refl _) _), fun b off hl hb => ?_⟩
  obtain ⟨a0, c0, hv, hn, hc⟩ := h.1
  simp only [Value.slice.injEq] at hv
  obtain ⟨rfl, _, _⟩ := hv
  obtain ⟨b', off', hb', hcell⟩ := hc hl
  obtain ⟨rfl, rfl⟩ : b' = b ∧ off' = off := by rw [hb'] at hb; simpa using hb
  have := cell_block_lt (hcell 0 hl)
  simp at this
  omega

theorem src_byte (E : Int) : ∃ v : Nat, v < 256 ∧ wrap64 (bits BinOp.and IntKind.u64 (IntKind.u64.wrap E / 1099511627776) 255) = v := by
  have h0 : 0 ≤ IntKind.u64.wrap E ∧ IntKind.u64.wrap E < 18446744073709551616 := by rw [IntKind.wrap_u64]; omega
  have h1 : 0 ≤ IntKind.u64.wrap E / 1099511627776 ∧ IntKind.u64.wrap E / 1099511627776 < 18446744073709551616 := by omega
  have hm := bits_mask .u64 64 (by decide) wraps_u64 8 (by decide) _ h1.1 h1.2
  have hm' : bits BinOp.and IntKind.u64 (IntKind.u64.wrap E / 1099511627776) 255 = IntKind.u64.wrap E / 1099511627776 % 256 := hm
  refine ⟨(IntKind.u64.wrap E / 1099511627776 % 256).toNat, by omega, ?_⟩
  rw [hm']
  have : ∀ x : Int, 0 ≤ x → x < 256 → wrap64 x = x := fun x h h' => by rw [← IntWalk.i64_left]; exact IntWalk.i64_in _ (by omega)
  rw [this _ (by omega) (by omega)]
  omega

theorem SrcAt.turned {w : World} {p : Nat} {a : Option Addr} {n c : Nat} {bs : List Int} {k : Nat} (h : SrcAt w p a n c bs k) (j g : Int) (hj : j = ((k + 1 : Nat) : Int)) :
    SrcAt ((w.setCell ⟨p, 1, none⟩ (.int .i64 j)).setCell ⟨p, 2, none⟩ (.int .u64 g)) p a n c bs (k + 1) := by
  subst hj
  obtain ⟨g0, hg⟩ := h.box
  have e1 : (w.setCell ⟨p, 1, none⟩ (.int .i64 ((k + 1 : Nat) : Int))).heap[p]? = some (.cells #[.slice a n c, .int .i64 ((k + 1 : Nat) : Int), .int .u64 g0] 66 (0, 0)) := by rw [heap_setCell_same w p 1 _ _ _ hg]; rfl
  refine ⟨⟨g, by rw [heap_setCell_same _ p 2 _ _ _ e1]; rfl⟩, ⟨?_, h.code.2⟩, h.far⟩
  obtain ⟨a0, c0, hv, hn, hc⟩ := h.code.1
  refine ⟨a0, c0, hv, hn, fun h0 => ?_⟩
  obtain ⟨b, off, rfl, hcell⟩ := hc h0
  simp only [Value.slice.injEq] at hv
  obtain ⟨rfl, _, _⟩ := hv
  have hbp := h.far b off h0 rfl
  refine ⟨b, off, rfl, fun i hi => ?_⟩
  rw [World.cell?_of_block (Below.heap_setCell _ _ _ _ (show b ≠ p from hbp)), World.cell?_of_block (Below.heap_setCell _ _ _ _ (show b ≠ p from hbp))]
  exact hcell i hi

theorem l00From (a : Option Addr) (n c : Nat) (w : World) :
    Calls Tryd.prog 20 #[.slice a n c] w fun e w' => e = .returned (.pointer (some ⟨w.heap.size, 0, none⟩)) ∧ w' = w.alloc (.cells #[.slice a n c, .int .i64 0, .int .u64 0] 66) := by
  go_enter Tryd.func20, Tryd.ntmps20
  go_wp2
  go_ret
  exact ⟨rfl, rfl⟩

set_option maxHeartbeats 800000 in
set_option maxRecDepth 100000 in
theorem srcNext (p : Nat) (a : Option Addr) (n c : Nat) (bs : List Int) (k : Nat) (w : World) (h : SrcAt w p a n c bs k) (hk : k ≤ 1000000) :
    Calls Tryd.prog 40 #[.pointer (some ⟨p, 0, none⟩)] w fun e w' => ∃ v : Nat, e = .returned (.int .i64 v) ∧ v < 256 ∧ SrcAt w' p a n c bs (k + 1) ∧ Only (fun q => q = p) w w' := by
  obtain rfl : n = bs.length := h.code.len
  obtain ⟨g, hg⟩ := h.box
  have c0 : w.cell? ⟨p, 0, none⟩ = some (.slice a bs.length c) := by rw [cell_of_row w p 0 _ _ (0, 0) hg]; rfl
  have c1 : w.cell? ⟨p, 1, none⟩ = some (.int .i64 k) := by rw [cell_of_row w p 1 _ _ (0, 0) hg]; rfl
  have c2 : w.cell? ⟨p, 2, none⟩ = some (.int .u64 g) := by rw [cell_of_row w p 2 _ _ (0, 0) hg]; rfl
  have f1 : w.frozen? ⟨p, 1, none⟩ = false := frozen_of_row w p 1 _ _ hg
  have f2 : w.frozen? ⟨p, 2, none⟩ = false := frozen_of_row w p 2 _ _ hg
  have hw : IntKind.i64.wrap ((k : Int) + 1) = ((k + 1 : Nat) : Int) := by rw [IntWalk.i64_in _ (by omega)]; omega
  by_cases hlt : k < bs.length
  · have hltI : (k : Int) < (bs.length : Int) := by omega
    have hleI : ((k + 1 : Nat) : Int) ≤ (bs.length : Int) := by omega
    obtain ⟨x, hx⟩ : ∃ x : Nat, intN bs k = x := ⟨(intN bs k).toNat, by have := h.code.2.1 k hlt; omega⟩
    have hx256 : x < 256 := by have := h.code.2.1 k hlt; omega
    obtain ⟨b, off, rfl, hc0⟩ := h.code.some_of k hlt
    rw [hx] at hc0
    have hbp : b ≠ p := h.far b off (by omega) rfl
    have HS := Lib.hid h
    clear h hg hx
    go_enter Tryd.func40, Tryd.ntmps40
    go_wp2
    go_region
    go_wp2
    go_region
    go_wp2
    go_region
    go_wp2
    go_ret
    exact ⟨x, rfl, hx256, (HS.out.turned _ _ (by omega)).below ((QW.refl _).drew.drew.drew.below _), ((((Only.refl (fun q => q = p) _).setCell (p := ⟨p, 1, none⟩) rfl _).setCell (p := ⟨p, 2, none⟩) rfl _).drew).drew.drew⟩
  · have hltI : ¬ ((k : Int) < (bs.length : Int)) := by omega
    have hleI : ¬ (((k + 1 : Nat) : Int) ≤ (bs.length : Int)) := by omega
    have HS := Lib.hid h
    clear h hg
    go_enter Tryd.func40, Tryd.ntmps40
    go_wp2
    go_region
    go_wp2
    go_region
    go_wp2
    go_ret
    obtain ⟨v, hv, he⟩ := src_byte (IntKind.u64.wrap (IntKind.u64.wrap (g * 6364136223846793005)) + 1442695040888963407)
    refine ⟨v, ?_, hv, (HS.out.turned _ _ (by omega)).below ((QW.refl _).drew.drew.below _), ((((Only.refl (fun q => q = p) _).setCell (p := ⟨p, 1, none⟩) rfl _).setCell (p := ⟨p, 2, none⟩) rfl _).drew).drew⟩
    rw [← he]
    rfl

set_option maxHeartbeats 400000 in
theorem srcPick (p : Nat) (a : Option Addr) (n c : Nat) (bs : List Int) (k m : Nat) (w : World) (h : SrcAt w p a n c bs k) (hk : k ≤ 1000000) (h2 : 2 ≤ m) (h200 : m ≤ 200) :
    Calls Tryd.prog 21 #[.pointer (some ⟨p, 0, none⟩), .int .i64 m] w fun e w' => ∃ v : Nat, e = .returned (.int .i64 v) ∧ v < m ∧ SrcAt w' p a n c bs (k + 1) ∧ Only (fun q => q = p) w w' := by
  have g1 : ¬ ((m : Int) ≤ 1) := by omega
  have g2 : ¬ ((200 : Int) < m) := by omega
  have g3 : ¬ ((m : Int) = 0) := by omega
  have HS := Lib.hid h
  clear h
  go_enter Tryd.func21, Tryd.ntmps21
  go_wp2_with fail
  refine (srcNext p a n c bs k _ HS.out hk).mono ?_
  rintro e w1 ⟨v, rfl, hv, hs1, ho1⟩
  go_wp2
  go_ret
  exact ⟨v % m, ret_int (Int.natCast_emod v m).symm, Nat.mod_lt _ (by omega), hs1, ho1⟩

set_option maxHeartbeats 400000 in
theorem srcOne (p : Nat) (a : Option Addr) (n c : Nat) (bs : List Int) (k m : Nat) (w : World) (h : SrcAt w p a n c bs k) (hk : k ≤ 1000000) (h2 : 2 ≤ m) (h200 : m ≤ 200) :
    Calls Tryd.prog 42 #[.pointer (some ⟨p, 0, none⟩), .int .i64 m] w fun e w' => ∃ b : Bool, e = .returned (.bool b) ∧ SrcAt w' p a n c bs (k + 1) ∧ Only (fun q => q = p) w w' := by
  have HS := Lib.hid h
  clear h
  go_enter Tryd.func42, Tryd.ntmps42
  go_wp2_with fail
  refine (srcPick p a n c bs k m _ HS.out hk h2 h200).mono ?_
  rintro e w1 ⟨v, rfl, hv, hs1, ho1⟩
  go_wp2
  go_ret
  exact ⟨_, rfl, hs1, ho1⟩

end Go.Proofs.YtjkbffoaenhhgaaDoor
