/-
  Texts that a strings.Builder holds: what writing to it does, and what stays behind it.
-/
import Derived.Test.YtadpnckpgpamiabDoorGRel
import Derived.Test.YtadpnckpgpamiabDoorBox
import Derived.Test.YtadpnckpgpamiabDoorShelf
import Derived.Shelf.Strings.BuilderK
import Derived.ChangeAlike
namespace Go.Proofs.YtadpnckpgpamiabDoor
open Go.RowKit

/-- The builder in block b holds these bytes. -/
def Bld (B b : Nat) (l : List UInt8) (w : World) : Prop := Lib.IsBuilderF 112 5 B b (Lib.byteCells l) w
/-- What writing keeps: what lies below B, and whatever is neither the builder nor a row of bytes. -/
def Wrt (B b : Nat) (w w' : World) : Prop := Below B w w' ∧ Lib.OthersKept 5 (some b) w w'
theorem Wrt.refl (B b : Nat) (w : World) : Wrt B b w w := ⟨Below.refl _ _, Lib.OthersKept.refl _ _ _⟩
theorem Wrt.trans {B b : Nat} {w w1 w2 : World} (h : Wrt B b w w1) (k : Wrt B b w1 w2) : Wrt B b w w2 := ⟨h.1.trans k.1, h.2.trans k.2⟩
theorem Wrt.alloc {B b : Nat} {w w1 : World} (h : Wrt B b w w1) (hB : B ≤ w1.heap.size) (o : Obj) : Wrt B b w (w1.alloc o) := ⟨h.1.alloc hB o, h.2.alloc o⟩
theorem Wrt.size {B b : Nat} {w w1 : World} (h : Wrt B b w w1) : w.heap.size ≤ w1.heap.size := h.1.size
theorem Wrt.bel {B b : Nat} {w w1 : World} (h : Wrt B b w w1) : Below B w w1 := h.1
theorem Wrt.box {B b : Nat} {w w1 : World} (h : Wrt B b w w1) {t : TypeId} {p : Nat} {xs : Array Value} (hx : Box t w p xs) (hp : p ≠ b) (ht : t ≠ 5) : Box t w1 p xs :=
  h.2 p _ hx (fun e => hp (Option.some.inj e)) (fun c fz e => by
    simp only [Obj.cells.injEq] at e
    exact ht e.2.1)
theorem Bld.alloc {B b : Nat} {l : List UInt8} {w : World} (h : Bld B b l w) (o : Obj) : Bld B b l (w.alloc o) :=
  Or.elim h (fun x => .inl (x.alloc o)) (fun x => .inr (x.alloc o))
theorem Bld.drew {B b : Nat} {l : List UInt8} {w : World} (h : Bld B b l w) : Bld B b l w.drew := h
theorem Bld.new (w : World) : Bld w.heap.size w.heap.size [] (w.alloc (.cells #[.pointer none, .slice none 0 0] 112)) := Lib.IsBuilderF.of (Lib.fresh_isBuilder 112 5 w)
theorem Bld.lt {B b : Nat} {l : List UInt8} {w : World} (h : Bld B b l w) : b < w.heap.size := Or.elim h (fun x => x.lt) (fun x => x.lt)

theorem bytes_snoc (l : List UInt8) {c : Nat} (h : c < 256) : Lib.byteCells (l ++ [c.toUInt8]) = Lib.byteCells l ++ [.int .u8 c] := by
  unfold Lib.byteCells
  rw [List.map_append]
  simp
  omega
theorem bld_size : (Tryd.prog.info? 112).map (·.size) = some 2 := by kernel_rfl
theorem bld_lies : liesAt Tryd.prog Tryd.prog.depth 112 (2 / Tryd.prog.cellsOf 112) 0 112 1 = true := by kernel_rfl
theorem info_u8 : (Tryd.prog.info? 5).map (fun i => (i.zero, i.size, i.bytes)) = some (some (.int .u8 0), 1, 1) := by kernel_rfl

set_option linter.unusedSimpArgs false in
set_option maxHeartbeats 2000000 in
set_option maxRecDepth 100000 in
theorem copyUsed (b : Nat) (w : World) (h0 : w.cell? ⟨b, 0, none⟩ = some (.pointer (some ⟨b, 0, none⟩))) :
    Calls Tryd.prog 149 #[.pointer (some ⟨b, 0, none⟩)] w fun e w' => e = .returned (.tuple #[]) ∧ w' = w := by
  obtain ⟨j, hj, -⟩ := Option.map_eq_some_iff.1 bld_size
  go_enter Tryd.func149, Tryd.ntmps149
  go_wp2
  rw [Lib.run_neq_ptr_same w _ Tryd.underlying109 hj]
  go_wp2
  go_end0
  exact ⟨rfl, rfl⟩

set_option linter.unusedSimpArgs false in
set_option maxHeartbeats 2000000 in
set_option maxRecDepth 100000 in
theorem copyFresh (b : Nat) (w : World) (h0 : w.cell? ⟨b, 0, none⟩ = some (.pointer none)) (hsh : w.shape? b = some (112, 2)) (hfz : w.frozen? ⟨b, 0, none⟩ = false) :
    Calls Tryd.prog 149 #[.pointer (some ⟨b, 0, none⟩)] w fun e w' => e = .returned (.tuple #[]) ∧ w' = w.setCell ⟨b, 0, none⟩ (.pointer (some ⟨b, 0, none⟩)) := by
  obtain ⟨j, hj, hjs⟩ := Option.map_eq_some_iff.1 bld_size
  go_enter Tryd.func149, Tryd.ntmps149
  go_wp2
  rw [Lib.run_to_unsafe w ⟨b, 0, none⟩ Tryd.underlying109 Tryd.underlying229 hj (by rw [hjs]; decide) hsh (Nat.zero_lt_succ 1)]
  simp only [Result.andThen]
  rw [Oper.upon_value]
  go_wp2
  rw [run_callFunc_extern Tryd.func180 (by kernel_rfl) (by kernel_rfl) (by kernel_rfl) (e := Extern.AbiNoEscape.same) (by kernel_rfl)]
  rw [Lib.run_noEscape]
  simp only [Result.andThen]
  rw [Oper.upon_value]
  go_wp2
  rw [Lib.run_from_unsafe w ⟨b, 0, none⟩ Tryd.underlying229 Tryd.underlying109 hj hsh bld_lies]
  simp only [Result.andThen]
  rw [Oper.upon_value]
  go_wp2
  go_end0
  exact ⟨rfl, rfl⟩

/-- The builder is one that has been written to. -/
def BldU (B b : Nat) (bs : List Value) (w : World) : Prop := Lib.BuilderAtF 112 5 B b (.pointer (some ⟨b, 0, none⟩)) bs w
theorem BldU.bld {B b : Nat} {l : List UInt8} {w : World} (h : BldU B b (Lib.byteCells l) w) : Bld B b l w := .inr h

theorem copyCheckC (B b : Nat) (l : List UInt8) (w : World) (h : Bld B b l w) :
    Calls Tryd.prog 149 #[.pointer (some ⟨b, 0, none⟩)] w fun e w' => e = .returned (.tuple #[]) ∧ BldU B b (Lib.byteCells l) w' ∧ Wrt B b w w' := by
  rcases h with h | h
  · refine (copyFresh b w h.cell0 h.shape h.frozen0).mono ?_
    rintro e w' ⟨rfl, rfl⟩
    exact ⟨rfl, h.used _, (Below.refl B w).setCell (p := ⟨b, 0, none⟩) h.1 _, (Lib.OthersKept.refl _ _ _).setCell ⟨b, 0, none⟩ rfl _⟩
  · refine (copyUsed b w h.cell0).mono ?_
    rintro e w' ⟨rfl, rfl⟩
    exact ⟨rfl, h, Wrt.refl _ _ _⟩

/-- What an append to the buffer leaves is the builder's again. -/
theorem bld_put {B b : Nat} {p v v' : Value} {bs : List Value} {w : World} (hB : B ≤ b) (hb : w.heap[b]? = some (.cells #[p, v] 112 (0, 0))) (hown : w.ownsRowF B 5 1 v' bs.length bs) :
    Lib.BuilderAtF 112 5 B b p bs (w.setCell ⟨b, 1, none⟩ v') := Lib.BuilderAtF.put hB hb hown (by decide)

set_option linter.unusedSimpArgs false in
set_option maxHeartbeats 2000000 in
set_option maxRecDepth 100000 in
theorem writeByteC (B b : Nat) (l : List UInt8) (c : Nat) (w : World) (h : Bld B b l w) (hc : c < 256) (hlen : l.length ≤ 10000000) (hBw : B ≤ w.heap.size) :
    Calls Tryd.prog 83 #[.pointer (some ⟨b, 0, none⟩), .int .u8 c] w fun e w' => e = .returned .nilIface ∧ Bld B b (l ++ [c.toUInt8]) w' ∧ Wrt B b w w' := by
  obtain ⟨i0, hi, hz0, hz1, hz2⟩ := info_parts info_u8
  have hl : (Lib.byteCells l).length = l.length := Lib.byteCells_length l
  go_enter Tryd.func83, Tryd.ntmps83
  go_wp2_with fail
  refine (copyCheckC B b l w h).mono ?_
  rintro e w1 ⟨rfl, h1, hw1⟩
  obtain ⟨hB, v, hbk, hown, hne⟩ := h1
  have c0 : w1.cell? ⟨b, 0, none⟩ = some (.pointer (some ⟨b, 0, none⟩)) := by rw [Lib.cell_of_heap hbk]; rfl
  have c1 : w1.cell? ⟨b, 1, none⟩ = some v := by rw [Lib.cell_of_heap hbk]; rfl
  have hlt : b < w1.heap.size := by
    rcases Nat.lt_or_ge b w1.heap.size with h' | h'
    · exact h'
    · simp [Array.getElem?_eq_none h'] at hbk
  have hz := hw1.size
  have HC1 := Lib.hid (cell_one_new w1 (.int .u8 c) 5)
  go_wp2_with (at_builtin; refine wpList_append_ownF _ rfl _ _ 110 rfl B 5 i0 (.int .u8 0) 1 1 Tryd.underlying110 hi hz0 hz1 hz2 rfl (by decide) _ _ _ rfl (hown.alloc _) ⟨w1.heap.size, 0, none⟩ 1 1 [.int .u8 c] rfl rfl HC1.out (by simp [Value.oneCell']) (by unfold maxLen; omega) (by omega) (by simp; omega) ?_)
  intro v' w2 hown' hgrow _
  have hb2 : w2.heap[b]? = some (.cells #[.pointer (some ⟨b, 0, none⟩), v] 112 (0, 0)) := by
    rw [hgrow.block b (by simp; omega) (fun e => hne e.symm), Lib.alloc_old w1 _ b hlt]
    exact hbk
  have d0 : w2.cell? ⟨b, 0, none⟩ = some (.pointer (some ⟨b, 0, none⟩)) := by rw [Lib.cell_of_heap hb2]; rfl
  have d1 : w2.cell? ⟨b, 1, none⟩ = some v := by rw [Lib.cell_of_heap hb2]; rfl
  have f1 : w2.frozen? ⟨b, 1, none⟩ = false := Lib.frozen_of_heap hb2 1
  obtain ⟨ao, n', cap, rfl⟩ : ∃ ao n' cap, v' = .slice ao n' cap := by
    rcases hown'.2 with ⟨hv, _⟩ | ⟨g, cap, cur, fz, hv, _⟩
    · exact ⟨_, _, _, hv⟩
    · exact ⟨_, _, _, hv⟩
  have HO := Lib.hid hown'
  have HG := Lib.hid hgrow
  have HB2 := Lib.hid hb2
  have HW1 := Lib.hid hw1
  have HWN := Lib.hid hown
  clear hown' hgrow hb2 c0 c1 hw1 hbk hown h
  go_wp2
  go_ret
  refine ⟨rfl, ?_, ?_, ((HW1.out.2.alloc _).grown HG.out (Lib.ownsRowF_kind (HWN.out.alloc _))).setCell ⟨b, 1, none⟩ rfl _⟩
  · unfold Bld
    rw [bytes_snoc l hc]
    exact .inr (bld_put hB HB2.out (by have := HO.out; rw [List.length_append, hl]; exact this))
  · exact ((HW1.out.1.alloc (by omega) _).grown HG.out (by simp; omega) (fun k hk => (HWN.out.lt k hk).1)).setCell (p := ⟨b, 1, none⟩) hB _

set_option linter.unusedSimpArgs false in
set_option maxHeartbeats 2000000 in
set_option maxRecDepth 100000 in
theorem writeStringC (B b : Nat) (l m : List UInt8) (w : World) (h : Bld B b l w) (hlen : l.length ≤ 10000000) (hm : m.length ≤ 10000000) (hBw : B ≤ w.heap.size) :
    Calls Tryd.prog 148 #[.pointer (some ⟨b, 0, none⟩), .string ⟨m.toArray⟩] w fun e w' => (∃ k : Int, e = .returned (.tuple #[.int .i64 k, .nilIface])) ∧ Bld B b (l ++ m) w' ∧ Wrt B b w w' := by
  obtain ⟨i0, hi, hz0, hz1, hz2⟩ := info_parts info_u8
  have hl : (Lib.byteCells l).length = l.length := Lib.byteCells_length l
  have hms : (ByteArray.mk m.toArray).size = m.length := by show m.toArray.size = _; simp
  go_enter Tryd.func148, Tryd.ntmps148
  go_wp2_with fail
  refine (copyCheckC B b l w h).mono ?_
  rintro e w1 ⟨rfl, h1, hw1⟩
  obtain ⟨hB, v, hbk, hown, hne⟩ := h1
  have c0 : w1.cell? ⟨b, 0, none⟩ = some (.pointer (some ⟨b, 0, none⟩)) := by rw [Lib.cell_of_heap hbk]; rfl
  have c1 : w1.cell? ⟨b, 1, none⟩ = some v := by rw [Lib.cell_of_heap hbk]; rfl
  have hlt : b < w1.heap.size := by
    rcases Nat.lt_or_ge b w1.heap.size with h' | h'
    · exact h'
    · simp [Array.getElem?_eq_none h'] at hbk
  have hz := hw1.size
  go_wp2_with (at_builtin; refine Lib.wpList_append_own_stringF _ rfl _ _ 110 9 rfl B 5 i0 Tryd.underlying110 Tryd.underlying9 hi hz0 hz1 hz2 _ _ _ rfl hown ⟨m.toArray⟩ rfl (by unfold maxLen; omega) (by omega) (by omega) ?_)
  intro v' w2 hown' hgrow _
  have hb2 : w2.heap[b]? = some (.cells #[.pointer (some ⟨b, 0, none⟩), v] 112 (0, 0)) := by
    rw [hgrow.block b hlt (fun e => hne e.symm)]
    exact hbk
  have d0 : w2.cell? ⟨b, 0, none⟩ = some (.pointer (some ⟨b, 0, none⟩)) := by rw [Lib.cell_of_heap hb2]; rfl
  have d1 : w2.cell? ⟨b, 1, none⟩ = some v := by rw [Lib.cell_of_heap hb2]; rfl
  have f1 : w2.frozen? ⟨b, 1, none⟩ = false := Lib.frozen_of_heap hb2 1
  obtain ⟨ao, n', cap, rfl⟩ : ∃ ao n' cap, v' = .slice ao n' cap := by
    rcases hown'.2 with ⟨hv, _⟩ | ⟨g, cap, cur, fz, hv, _⟩
    · exact ⟨_, _, _, hv⟩
    · exact ⟨_, _, _, hv⟩
  have HO := Lib.hid hown'
  have HG := Lib.hid hgrow
  have HB2 := Lib.hid hb2
  have HW1 := Lib.hid hw1
  have HWN := Lib.hid hown
  clear hown' hgrow hb2 c0 c1 hw1 hbk hown h hms
  go_wp2
  go_ret2
  refine ⟨⟨_, rfl⟩, ?_, ?_, (HW1.out.2.grown HG.out (Lib.ownsRowF_kind HWN.out)).setCell ⟨b, 1, none⟩ rfl _⟩
  · unfold Bld
    rw [Lib.byteCells_append]
    exact .inr (bld_put hB HB2.out (by have := HO.out; rw [List.length_append, Lib.byteCells_length, Lib.byteCells_length]; exact this))
  · exact (HW1.out.1.grown HG.out (by omega) (fun k hk => (HWN.out.lt k hk).1)).setCell (p := ⟨b, 1, none⟩) hB _

theorem stringC (B b : Nat) (l : List UInt8) (w : World) (h : Bld B b l w) (hBw : B ≤ w.heap.size) :
    Calls Tryd.prog 75 #[.pointer (some ⟨b, 0, none⟩)] w fun e w' => e = .returned (.string ⟨l.toArray⟩) ∧ Below B w w' :=
  (Tryd.Builder_String_any_k B b l w h hBw).mono fun _ _ x => ⟨x.1, x.2.2.1⟩

theorem formatC (i : Nat) (hi : i < 100) (w : World) : Calls Tryd.prog 110 #[.int .i64 i, .int .i64 10] w fun e w' => e = .returned (.string ⟨(Lib.decDigits i).toArray⟩) ∧ w = w' :=
  (Tryd.strconv_FormatInt_10_small i hi w).mono fun _ _ x => ⟨x.1, x.2.symm⟩

end Go.Proofs.YtadpnckpgpamiabDoor
