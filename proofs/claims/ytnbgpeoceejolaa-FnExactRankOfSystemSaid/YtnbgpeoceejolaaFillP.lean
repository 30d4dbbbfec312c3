/-
  The closure in eliminationOf that lays a row of a system into the array.
-/
import Derived.Test.YtnbgpeoceejolaaArr
namespace Go.Proofs.Ytnbgpeoceejolaa
open Go.RowKit

theorem only_setRow {g : Nat} {w0 w : World} (h : Only (fun q => q = g) w0 w) (cs : Array Value) : Only (fun q => q = g) w0 (w.setRow g cs) :=
  ⟨h.os, h.tape, h.output, by have := h.size; simpa [World.setRow] using this, fun k hk hne => (setRow_other w g k cs hne).trans (h.block k hk hne)⟩

set_option linter.unusedSimpArgs false in
set_option maxHeartbeats 4000000 in
set_option maxRecDepth 100000 in
theorem fillC (sb g fo i l u N : Nat) (p : Int) (rs : List (Int × List Int)) (F : Nat → Int) (T : TypeId) (w0 w : World) (hs : SysAt w0 sb 0 p u rs) (hok : SysOk p u rs) (hw : Below w0.heap.size w0 w) (hg : w0.heap.size ≤ g) (hb : Box T w g (arrF N F).toArray) (hi : i < rs.length) (hl : l = u + 1 + rs.length) (hfit : fo + l ≤ N) (hN : N ≤ 1000) :
    Calls Try.prog 135 #[.int .i64 (i : Int), .slice (some ⟨g, fo, none⟩) l l, .pointer (some ⟨sb, 0, none⟩)] w fun e w' => e = .returned (.tuple #[]) ∧ Box T w' g (arrF N (fillF rs u fo i F)).toArray ∧ Only (fun q => q = g) w w' := by
  have hn24 := hok.2.2.1
  have hu12 : 1 ≤ u ∧ u ≤ 12 := by have := hok.2.1; unfold InP at this; omega
  obtain ⟨hlen, hr, _⟩ := hok.2.2.2 i hi
  have hxl : (rowO rs i).length = u := by omega
  obtain ⟨_, hun, a0, n0, c0, hls, hes⟩ := hs
  obtain ⟨ea, ec, hv, hnn, hel⟩ := hes
  simp only [Value.slice.injEq] at hv
  obtain ⟨rfl, rfl, rfl⟩ := hv
  obtain ⟨eb, ef, rfl, hel2⟩ := hel (by omega)
  obtain ⟨er, la, ln, lc, el, hrow⟩ := hel2 i hi
  obtain ⟨la2, lc2, hv2, hle, hcells⟩ := hrow
  simp only [Value.slice.injEq] at hv2
  obtain ⟨rfl, rfl, rfl⟩ := hv2
  obtain ⟨lb, lo, rfl, hcell⟩ := hcells (by omega)
  obtain ⟨r, hrr⟩ : ∃ r, arO rs i = r := ⟨_, rfl⟩
  rw [hrr] at er
  have x1 : w.cell? ⟨sb, 1, none⟩ = some (.int .i64 (u : Int)) := below_cell hw hun
  have x2 : w.cell? ⟨sb, 2, none⟩ = some (.slice (some ⟨eb, ef, none⟩) rs.length c0) := below_cell hw hls
  have x3 := below_cell hw er
  have x4 := below_cell hw el
  have hsbg : sb ≠ g := by have := cell_block_lt hun; simp only at this; omega
  have hebg : eb ≠ g := by have := cell_block_lt er; simp only at this; omega
  have hsb : sb < w.heap.size := by have := cell_block_lt hun; have := hw.size; simp only at *; omega
  have heb : eb < w.heap.size := by have := cell_block_lt er; have := hw.size; simp only at *; omega
  have HCELL : Hid (∀ (j : Nat) (v : Value), ((rowO rs i).map (Value.int .i64))[j]? = some v → w.cell? ((⟨lb, lo, none⟩ : Addr).add j) = some v) := Lib.hid (fun j v hj => by
    rw [List.getElem?_map] at hj
    by_cases hjl : j < (rowO rs i).length
    · rw [List.getElem?_eq_getElem hjl] at hj
      simp only [Option.map_some, Option.some.injEq] at hj
      have e : w.cell? ⟨lb, lo + j, none⟩ = some (Value.int .i64 (intN (rowO rs i) j)) := below_cell hw (hcell j hjl)
      rw [intN_at _ _ hjl, hj] at e
      rw [Addr.add_lit]
      exact e
    · rw [List.getElem?_eq_none (by omega)] at hj
      simp at hj)
  have HN : Hid (((rowO rs i).map (Value.int .i64)).length = Nat.min (rowO rs i).length l) := Lib.hid (by rw [List.length_map]; exact (Nat.min_eq_left (by omega)).symm)
  have HFIT : Hid (fo + ((rowO rs i).map (Value.int .i64)).length ≤ (arrF N F).toArray.size) := Lib.hid (by rw [List.length_map, List.size_toArray, arrF_len]; omega)
  have HB := Lib.hid hb
  have HRR := Lib.hid hrr
  obtain ⟨F2, hF2⟩ : ∃ F2 : Nat → Int, (fun q => if fo ≤ q ∧ q < fo + (rowO rs i).length then intN (rowO rs i) (q - fo) else F q) = F2 := ⟨_, rfl⟩
  have HSP : Hid ((arrF N F).toArray.toList.take fo ++ ((rowO rs i).map (Value.int .i64) ++ (arrF N F).toArray.toList.drop (fo + ((rowO rs i).map (Value.int .i64)).length)) = arrF N F2) := Lib.hid (by
    rw [List.length_map, ← hF2]
    exact arrF_splice (by omega))
  have HF2 := Lib.hid hF2
  have HXL := Lib.hid hxl
  have hw12 : IntKind.i64.wrap ((u : Int) + 1) = ((u + 1 : Nat) : Int) := by rw [IntWalk.i64_in _ (by omega)]; rfl
  have hw13 : IntKind.i64.wrap (((u + 1 : Nat) : Int) + (i : Int)) = ((u + 1 + i : Nat) : Int) := by rw [IntWalk.i64_in _ (by omega)]; rfl
  have hul : (u : Int) < (l : Int) := by omega
  have hil : ((u + 1 + i : Nat) : Int) < (l : Int) := by omega
  have hin : (i : Int) < (rs.length : Int) := by omega
  have hul0 : u < l := by omega
  have hil0 : u + 1 + i < l := by omega
  have HLE := Lib.hid hl
  clear hl
  clear hok hel hel2 hcell hcells hb hrr hF2 hlen hr hnn hle hw hun hls er el hxl
  go_enter Try.func135, Try.ntmps135
  go_wp2_with (refine wpList_copy_own rfl (.tmp 5) (.tmp 11) 34 34 rfl 2 Try.underlying34 (by kernel_rfl) g fo l l ⟨lb, lo, none⟩ _ _ rfl rfl _ T HB.out ((rowO rs i).map (Value.int .i64)) HN.out HCELL.out HFIT.out (fun v hv => by obtain ⟨x, _, rfl⟩ := List.mem_map.1 hv; rfl) ?_; rw [HSP.out]; obtain ⟨w2, hw2⟩ : ∃ w2, w.setRow g (arrF N F2).toArray = w2 := ⟨_, rfl⟩; rw [hw2]; have HW2 := Lib.hid hw2; clear hw2)
  have hw2 := HW2.out
  have HO2 : Hid (Only (fun q => q = g) w w2) := Lib.hid (by rw [← hw2]; exact only_setRow (Only.refl _ _) _)
  have HB2 : Hid (Box T w2 g (arrF N F2).toArray) := Lib.hid (by rw [← hw2]; exact setRow_heap w g _ _ T _ HB.out)
  clear hw2
  have y1 := (World.cell?_of_block (HO2.out.block sb hsb hsbg)).trans x1
  have y2 := (World.cell?_of_block (HO2.out.block sb hsb hsbg)).trans x2
  have y3 := (World.cell?_of_block (HO2.out.block eb heb hebg)).trans x3
  have c1 := HB2.out.flat.1 (fo + u) (by omega)
  have f1 := HB2.out.flat.2 (fo + u)
  have HB3 := Lib.hid (HB2.out.arr (fo + u) r)
  have c2 := HB3.out.flat.1 (fo + (u + 1 + i)) (by omega)
  have f2 := HB3.out.flat.2 (fo + (u + 1 + i))
  have z1 : (w2.setCell ⟨g, fo + u, none⟩ (.int .i64 r)).cell? ⟨sb, 1, none⟩ = _ := (World.cell?_setCell_other _ _ _ _ (by intro e; simp only [Addr.mk.injEq] at e; omega)).trans y1
  have HBF : Hid (Box T ((w2.setCell ⟨g, fo + u, none⟩ (.int .i64 r)).setCell ⟨g, fo + (u + 1 + i), none⟩ (.int .i64 1)).drew g (arrF N (fillF rs u fo i F)).toArray) := Lib.hid (by
    have e := HB3.out.arr (fo + (u + 1 + i)) 1
    rw [← HF2.out] at e
    unfold fillF
    rw [HRR.out]
    exact e)
  have HOF : Hid (Only (fun q => q = g) w ((w2.setCell ⟨g, fo + u, none⟩ (.int .i64 r)).setCell ⟨g, fo + (u + 1 + i), none⟩ (.int .i64 1)).drew) := Lib.hid ((HO2.out.setCell (p := ⟨g, fo + u, none⟩) rfl _).setCell (p := ⟨g, fo + (u + 1 + i), none⟩) rfl _).drew
  clear x1 x2 x3 x4
  go_wp2_with fail
  refine wp_region_noPanic ?_
  refine wp_region_late (S := (fun w' => w'.cell? ⟨sb, 1, none⟩ = some (.int .i64 (u : Int)) ∧ w'.cell? ⟨sb, 2, none⟩ = some (.slice (some ⟨eb, ef, none⟩) rs.length c0) ∧ w'.cell? ⟨eb, ef + i * 2 + 1, none⟩ = some (.int .i64 r))) [10] (by kernel_rfl) ?_ (fun hHeld => ?_)
  · exact ⟨y1, y2, y3⟩
  refine wpAnyL_free (i := 0) (v := ?_) (some 13) rfl rfl (by kernel_rfl) (by kernel_rfl) (by kernel_rfl) (by decide) (fun _ _ _ h => h) (Or.inl ⟨by rfl, ?_⟩) (fun h0 => by assumption) ?_
  rotate_left
  · intro wS
    go_simp
    try with_reducible rfl
  try simp only [Act.put, List.setIfInBounds_toArray, List.set_cons_zero, List.set_cons_succ]
  refine wpAnyL_free (i := 1) (v := ?_) (some 14) rfl rfl (by kernel_rfl) (by kernel_rfl) (by kernel_rfl) (by decide) (fun _ _ _ h => h) (Or.inl ⟨by rfl, ?_⟩) (fun h0 => by assumption) ?_
  rotate_left
  · intro wS
    go_simp
    try with_reducible rfl
  try simp only [Act.put, List.setIfInBounds_toArray, List.set_cons_zero, List.set_cons_succ]
  refine wpAnyL_take (i := 2) (v := ?_) (some 15) rfl rfl (by kernel_rfl) (by kernel_rfl) (by kernel_rfl) (by kernel_rfl) (by kernel_rfl) (fun _ _ _ h => h) (Or.inl ⟨by rfl, ?_⟩) (by assumption) ?_
  rotate_left
  · intro wS hSw
    try dsimp only at hSw
    go_simp
    try with_reducible rfl
  try simp only [Act.put, List.setIfInBounds_toArray, List.set_cons_zero, List.set_cons_succ]
  refine wpAnyL_free (i := 3) (v := ?_) (some 16) rfl rfl (by kernel_rfl) (by kernel_rfl) (by kernel_rfl) (by decide) (fun _ _ _ h => h) (Or.inl ⟨by rfl, ?_⟩) (fun h0 => by assumption) ?_
  rotate_left
  · intro wS
    go_simp
    try with_reducible rfl
  try simp only [Act.put, List.setIfInBounds_toArray, List.set_cons_zero, List.set_cons_succ]
  refine wpAnyL_take (i := 4) (v := ?_) (some 17) rfl rfl (by kernel_rfl) (by kernel_rfl) (by kernel_rfl) (by kernel_rfl) (by kernel_rfl) (fun _ _ _ h => h) (Or.inl ⟨by rfl, ?_⟩) (by assumption) ?_
  rotate_left
  · intro wS hSw
    try dsimp only at hSw
    go_simp
    try with_reducible rfl
  try simp only [Act.put, List.setIfInBounds_toArray, List.set_cons_zero, List.set_cons_succ]
  refine wpAnyL_free (i := 5) (v := ?_) (some 18) rfl rfl (by kernel_rfl) (by kernel_rfl) (by kernel_rfl) (by decide) (fun _ _ _ h => h) (Or.inl ⟨by rfl, ?_⟩) (fun h0 => by assumption) ?_
  rotate_left
  · intro wS
    go_simp
    try with_reducible rfl
  try simp only [Act.put, List.setIfInBounds_toArray, List.set_cons_zero, List.set_cons_succ]
  refine wpAnyL_free (i := 6) (v := ?_) (some 19) rfl rfl (by kernel_rfl) (by kernel_rfl) (by kernel_rfl) (by decide) (fun _ _ _ h => h) (Or.inl ⟨by rfl, ?_⟩) (fun h0 => by assumption) ?_
  rotate_left
  · intro wS
    go_simp
    try with_reducible rfl
  try simp only [Act.put, List.setIfInBounds_toArray, List.set_cons_zero, List.set_cons_succ]
  refine wpAnyL_free (i := 7) (v := ?_) (some 20) rfl rfl (by kernel_rfl) (by kernel_rfl) (by kernel_rfl) (by decide) (fun _ _ _ h => h) (Or.inl ⟨by rfl, ?_⟩) (fun h0 => by assumption) ?_
  rotate_left
  · intro wS
    go_simp
    try with_reducible rfl
  try simp only [Act.put, List.setIfInBounds_toArray, List.set_cons_zero, List.set_cons_succ]
  refine wpAnyL_take (i := 8) (v := ?_) (some 21) rfl rfl (by kernel_rfl) (by kernel_rfl) (by kernel_rfl) (by kernel_rfl) (by kernel_rfl) (fun _ _ _ h => h) (Or.inl ⟨by rfl, ?_⟩) (by assumption) ?_
  rotate_left
  · intro wS hSw
    try dsimp only at hSw
    go_simp
    try with_reducible rfl
  try simp only [Act.put, List.setIfInBounds_toArray, List.set_cons_zero, List.set_cons_succ]
  refine wpAnyL_free (i := 9) (v := ?_) (some 22) rfl rfl (by kernel_rfl) (by kernel_rfl) (by kernel_rfl) (by decide) (fun _ _ _ h => h) (Or.inl ⟨by rfl, ?_⟩) (fun h0 => by assumption) ?_
  rotate_left
  · intro wS
    go_simp
    try with_reducible rfl
  try simp only [Act.put, List.setIfInBounds_toArray, List.set_cons_zero, List.set_cons_succ]
  refine wpAnyL_ready (rs := [10]) (by kernel_rfl) (by simp) ?_
  refine AllReadyL.last rfl (by kernel_rfl) (fun K hK => ?_) AllReadyL.nil
  go_simp
  refine hK.out _ _ ?_
  clear hK K
  try simp only [Act.put, List.setIfInBounds_toArray, List.set_cons_zero, List.set_cons_succ]
  refine wpAnyL_done (by kernel_rfl) ?_ _
  refine NoPanic.normal ?_
  clear hHeld
  go_wp2
  go_end0
  exact ⟨rfl, HBF.out, HOF.out⟩

end Go.Proofs.Ytnbgpeoceejolaa
