/-
  eliminationOf of the program.
-/
import Derived.Test.YtnbgpeoceejolaaRowsBy
namespace Go.Proofs.Ytnbgpeoceejolaa
open Go.RowKit

/-- An elimination of the program in memory. -/
structure ElimAt (w : World) (eb rb g n l u d : Nat) (s : Nat → Nat) (p : Int) (F : Nat → Int) (R : Nat → List Int) : Prop where
  box : Box 114 w eb #[modV p, .int .i64 (u : Int), .slice (some ⟨rb, 0, none⟩) n n, .int .i64 (d : Int)]
  rows : PRows w rb g 888 n l s p F
  eq : ∀ i, i < n → rowAtF F s l i = R i
  hrb : rb < w.heap.size
  heb : eb < w.heap.size
  heg : eb ≠ g
  her : eb ≠ rb

theorem findE_congr {R R' : Nat → List Int} {c n : Nat} (h : ∀ i, i < n → R i = R' i) : ∀ (f k : Nat), findE R c n f k = findE R' c n f k := by
  intro f
  induction f with
  | zero => intro k; rfl
  | succ f ih =>
    intro k
    show (if k < n ∧ intN (R k) c = 0 then findE R c n f (k + 1) else k) = (if k < n ∧ intN (R' k) c = 0 then findE R' c n f (k + 1) else k)
    rw [ih (k + 1)]
    by_cases hk : k < n
    · rw [h k hk]
    · rw [if_neg (fun e => hk e.1), if_neg (fun e => hk e.1)]
theorem elimE_congr {p : Int} {n : Nat} {R R' : Nat → List Int} (h : ∀ i, i < n → R i = R' i) (hd : ∀ u, (elimE p n R' u).2 ≤ n) : ∀ u, (∀ i, i < n → (elimE p n R u).1 i = (elimE p n R' u).1 i) ∧ (elimE p n R u).2 = (elimE p n R' u).2 := by
  intro u
  induction u with
  | zero => exact ⟨h, rfl⟩
  | succ u ih =>
    obtain ⟨i1, i2⟩ := ih
    have hdn := hd u
    show (∀ i, i < n → (stepE p n u (elimE p n R u)).1 i = (stepE p n u (elimE p n R' u)).1 i) ∧ (stepE p n u (elimE p n R u)).2 = (stepE p n u (elimE p n R' u)).2
    unfold stepE
    rw [findE_congr i1, i2]
    obtain ⟨f1, f2, _, _⟩ := findE_spec (R := (elimE p n R' u).1) (c := u) (n := n) n (elimE p n R' u).2 hdn (by omega)
    by_cases hf : findE (elimE p n R' u).1 u n n (elimE p n R' u).2 = n
    · rw [if_pos hf, if_pos hf]
      exact ⟨i1, i2⟩
    · rw [if_neg hf, if_neg hf]
      exact ⟨fun i hi => clearK_congr (fun j hj => swapF_congr i1 (by omega) (by omega) hj) (by omega) hi, rfl⟩

set_option linter.unusedSimpArgs false in
set_option maxHeartbeats 4000000 in
set_option maxRecDepth 100000 in
theorem eliminationOfC (p : Int) (u : Nat) (a : Option Addr) (n c : Nat) (rs : List (Int × List Int)) (w : World) (h : EqsAt w (.slice a n c) rs) (hok : SysOk p u rs) :
    Calls Try.prog 76 #[.agg #[.int .i64 p, .int .i64 (u : Int), .slice a n c]] w fun e w' => ∃ eb rb g s F, e = .returned (.pointer (some ⟨eb, 0, none⟩)) ∧ ElimAt w' eb rb g rs.length (u + 1 + rs.length) u (elimE p rs.length (row0 rs) u).2 s p F (elimE p rs.length (row0 rs) u).1 ∧ w.heap.size ≤ g ∧ w.heap.size ≤ rb ∧ w.heap.size ≤ eb ∧ Below w.heap.size w w' := by
  have hn24 := hok.2.2.1
  have hu12 : 1 ≤ u ∧ u ≤ 12 := by have := hok.2.1; unfold InP at this; omega
  obtain ⟨a', c', hv, _, _⟩ := id h
  simp only [Value.slice.injEq] at hv
  obtain ⟨rfl, rfl, rfl⟩ := hv
  have HS := Lib.hid (SysAt.new w p u a rs.length c rs 30 h)
  have HW1 : Hid (Below w.heap.size w (w.alloc (.cells #[.int .i64 p, .int .i64 (u : Int), .slice a rs.length c] 30))) := Lib.hid ((Below.refl _ _).alloc (Nat.le_refl _) _)
  obtain ⟨sb, hsb⟩ : ∃ sb, w.heap.size = sb := ⟨_, rfl⟩
  have HOK := Lib.hid hok
  have HPP := Lib.hid hok.1
  have HSB := Lib.hid hsb
  have x1 : (w.alloc (.cells #[.int .i64 p, .int .i64 (u : Int), .slice a rs.length c] 30)).cell? ⟨w.heap.size, 1, none⟩ = some (.int .i64 (u : Int)) := HS.out.unknowns
  have x2 : (w.alloc (.cells #[.int .i64 p, .int .i64 (u : Int), .slice a rs.length c] 30)).cell? ⟨w.heap.size, 2, none⟩ = some (.slice a rs.length c) := by simp [World.cell?_alloc_new]
  have hsz : (w.alloc (.cells #[.int .i64 p, .int .i64 (u : Int), .slice a rs.length c] 30)).heap.size = w.heap.size + 1 := by simp
  have HSZ := Lib.hid hsz
  have hw12 : IntKind.i64.wrap ((u : Int) + 1) = ((u + 1 : Nat) : Int) := by rw [IntWalk.i64_in _ (by omega)]; rfl
  have hw13 : IntKind.i64.wrap (((u + 1 : Nat) : Int) + (rs.length : Int)) = ((u + 1 + rs.length : Nat) : Int) := by rw [IntWalk.i64_in _ (by omega)]; rfl
  rw [hsb] at HS x1 x2 HW1 hsz HSZ ⊢
  obtain ⟨w1, hw1⟩ : ∃ w1, w.alloc (.cells #[.int .i64 p, .int .i64 (u : Int), .slice a rs.length c] 30) = w1 := ⟨_, rfl⟩
  rw [hw1] at HS x1 x2 HW1 HSZ
  obtain ⟨tm, htm⟩ : ∃ T, modV p = .iface T (.agg #[]) := by unfold modV; split <;> exact ⟨_, rfl⟩
  have HTM := Lib.hid htm
  clear h hok hsz htm
  go_enter Try.func76, Try.ntmps76
  go_wp2_with fail
  try simp only [hsb]
  try rw [hw1]
  clear hw1
  have hmf : ∀ (fn : Fn) (first cap : Array Value) (w : World), (Instr.makeFunc fn first cap).run Try.prog w = .ok (.func fn first cap) w := fun _ _ _ _ => rfl
  go_wp2_with fail
  refine (rowsByC sb u (u + 1 + rs.length) p rs _ HS.out HOK.out rfl).mono ?_
  rintro e w2 ⟨g, rb, rfl, hp2, hg2, hrb2, hrs2, hb2⟩
  have HP2 := Lib.hid hp2
  have HW2 := Lib.hid (HW1.out.trans (hb2.mono (by have := HSZ.out; omega)))
  have z0 : w2.cell? ⟨sb, 0, none⟩ = some (.int .i64 p) := below_cell hb2 HS.out.prime
  have z1 : w2.cell? ⟨sb, 1, none⟩ = some (.int .i64 (u : Int)) := below_cell hb2 HS.out.unknowns
  clear hp2 hb2
  obtain ⟨w3, hw3⟩ : ∃ w3, (w2.alloc (Obj.cells #[.iface tm (.agg #[]), .int .i64 (u : Int), .slice (some ⟨rb, 0, none⟩) rs.length rs.length, .int .i64 0] 114)).drew = w3 := ⟨_, rfl⟩
  have HW23 : Hid (Below w2.heap.size w2 w3) := Lib.hid (by rw [← hw3]; exact ((Below.refl _ _).alloc (Nat.le_refl _) _).drew)
  have HB3 : Hid (Box 114 w3 w2.heap.size #[modV p, .int .i64 (u : Int), .slice (some ⟨rb, 0, none⟩) rs.length rs.length, .int .i64 0]) := Lib.hid (by rw [← hw3, HTM.out]; exact Box.new _ _ _)
  have hg2' := HP2.out.inn
  have HP3 := Lib.hid (HP2.out.turn (fun _ => hrs2) HW23.out.only (HP2.out.flat.same (HW23.out.block g hg2')) HP2.out.low (fun o => (World.frozen?_of_block (HW23.out.block rb hrs2)).trans (HP2.out.frz o)))
  have hs3 : rb < w3.heap.size := Nat.lt_of_lt_of_le hrs2 HW23.out.size
  have HW3 := Lib.hid (HW2.out.trans (HW23.out.mono (by have := HW2.out.size; omega)))
  have HGD := Lib.hid (row0_good HOK.out)
  have HCG := Lib.hid (elimE_congr (p := p) (R := rowAtF (rowsF rs (u + 1 + rs.length) rs.length) (fun i => i) (u + 1 + rs.length)) (fun i hi => rowsF_row (by have := (HOK.out.2.2.2 i hi).1; omega) rfl hi) (fun v => (elimE_good (by rcases HPP.out with h | h <;> omega) HGD.out v).2) u)
  have hg3 : g < w3.heap.size := Nat.lt_of_lt_of_le hg2' HW23.out.size
  have h1sz := HSZ.out
  have HEB := Lib.hid HB3.out.lt
  obtain ⟨eb, heb⟩ : ∃ eb, w2.heap.size = eb := ⟨_, rfl⟩
  rw [heb] at HB3 HEB
  have HEE := Lib.hid heb
  have hebs := HEB.out
  have hsb2 : sb ≤ eb := by have := HW2.out.size; omega
  clear heb
  go_upto_region 3 with fail
  go_cut [5] from 17 to 23 (fun v5 wz => v5 = .pointer (some ⟨eb, 0, none⟩) ∧ wz = w3)
  case first =>
    have HW3E := Lib.hid hw3
    clear hw3
    refine wp_region_noPanic ?_
    refine wp_region_late (S := (fun w' => w'.cell? ⟨sb, 0, none⟩ = some (.int .i64 p) ∧ w'.cell? ⟨sb, 1, none⟩ = some (.int .i64 (u : Int)) ∧ Below w2.heap.size w2 w')) [8] (by kernel_rfl) ?_ (fun hHeld => ?_)
    · exact ⟨z0, z1, (QW.refl _).drew.below _⟩
    refine wpAnyL_free (i := 0) (v := ?_) (some 17) rfl rfl (by kernel_rfl) (by kernel_rfl) (by kernel_rfl) (by decide) (fun _ _ _ h => h) (Or.inl ⟨by rfl, ?_⟩) (fun h0 => by assumption) ?_
    rotate_left
    · intro wS
      go_simp
      try with_reducible rfl
    try simp only [Act.put, List.setIfInBounds_toArray, List.set_cons_zero, List.set_cons_succ]
    refine wpAnyL_take (i := 1) (v := ?_) (some 18) rfl rfl (by kernel_rfl) (by kernel_rfl) (by kernel_rfl) (by kernel_rfl) (by kernel_rfl) (fun _ _ _ h => h) (Or.inl ⟨by rfl, ?_⟩) (by assumption) ?_
    rotate_left
    · intro wS hSw
      try dsimp only at hSw
      go_simp
      try with_reducible rfl
    try simp only [Act.put, List.setIfInBounds_toArray, List.set_cons_zero, List.set_cons_succ]
    refine wpAnyL_free (i := 3) (v := ?_) (some 20) rfl rfl (by kernel_rfl) (by kernel_rfl) (by kernel_rfl) (by decide) (fun _ _ _ h => h) (Or.inl ⟨by rfl, ?_⟩) (fun h0 => by assumption) ?_
    rotate_left
    · intro wS
      go_simp
      try with_reducible rfl
    try simp only [Act.put, List.setIfInBounds_toArray, List.set_cons_zero, List.set_cons_succ]
    refine wpAnyL_take (i := 4) (v := ?_) (some 21) rfl rfl (by kernel_rfl) (by kernel_rfl) (by kernel_rfl) (by kernel_rfl) (by kernel_rfl) (fun _ _ _ h => h) (Or.inl ⟨by rfl, ?_⟩) (by assumption) ?_
    rotate_left
    · intro wS hSw
      try dsimp only at hSw
      go_simp
      try with_reducible rfl
    try simp only [Act.put, List.setIfInBounds_toArray, List.set_cons_zero, List.set_cons_succ]
    refine wpAnyL_free (i := 5) (v := ?_) (some 22) rfl rfl (by kernel_rfl) (by kernel_rfl) (by kernel_rfl) (by decide) (fun _ _ _ h => h) (Or.inl ⟨by rfl, ?_⟩) (fun h0 => by assumption) ?_
    rotate_left
    · intro wS
      go_simp
      try with_reducible rfl
    try simp only [Act.put, List.setIfInBounds_toArray, List.set_cons_zero, List.set_cons_succ]
    refine wpAnyL_ready (rs := [2, 7]) (by kernel_rfl) (by simp) ?_
    refine AllReadyL.cons rfl (fun K hK => ?_) ?_
    · skip
      go_simp; go_at_call 136; refine (modulusOfC p _ HPP.out).mono ?_; rw [HTM.out]; rintro e w4 ⟨rfl, rfl⟩
      refine hK.out _ _ ?_ (fun hHeld => ?_)
      · exact hHeld
      clear hK K
      try simp only [Act.put, List.setIfInBounds_toArray, List.set_cons_zero, List.set_cons_succ]
      refine wpAnyL_free (i := 6) (v := ?_) (some 23) rfl rfl (by kernel_rfl) (by kernel_rfl) (by kernel_rfl) (by decide) (fun _ _ _ h => h) (Or.inl ⟨by rfl, ?_⟩) (fun h0 => by assumption) ?_
      rotate_left
      · intro wS
        go_simp
        try with_reducible rfl
      try simp only [Act.put, List.setIfInBounds_toArray, List.set_cons_zero, List.set_cons_succ]
      refine wpAnyL_ready (rs := [7]) (by kernel_rfl) (by simp) ?_
      refine AllReadyL.cons rfl (fun K hK => ?_) AllReadyL.nil
      go_simp
      refine hK.out _ _ ?_ (fun hHeld => ?_)
      · exact ⟨(below_cell ((Below.refl _ _).alloc (Nat.le_refl _) _) hHeld.1), (below_cell ((Below.refl _ _).alloc (Nat.le_refl _) _) hHeld.2.1), hHeld.2.2.alloc hHeld.2.2.size _⟩
      clear hK K
      try simp only [Act.put, List.setIfInBounds_toArray, List.set_cons_zero, List.set_cons_succ]
      refine wpAnyL_ready (rs := [8]) (by kernel_rfl) (by simp) ?_
      refine AllReadyL.last rfl (by kernel_rfl) (fun K hK => ?_) AllReadyL.nil
      go_simp
      refine hK.out _ _ ?_
      clear hK K
      try simp only [Act.put, List.setIfInBounds_toArray, List.set_cons_zero, List.set_cons_succ]
      refine wpAnyL_done (by kernel_rfl) ?_ _
      refine NoPanic.normal ?_
      clear hHeld
      go_wp2_with fail
      go_meet
      exact ⟨by rw [HEE.out], HW3E.out⟩
    refine AllReadyL.cons rfl (fun K hK => ?_) AllReadyL.nil
    go_simp
    refine hK.out _ _ ?_ (fun hHeld => ?_)
    · exact ⟨(below_cell ((Below.refl _ _).alloc (Nat.le_refl _) _) hHeld.1), (below_cell ((Below.refl _ _).alloc (Nat.le_refl _) _) hHeld.2.1), hHeld.2.2.alloc hHeld.2.2.size _⟩
    clear hK K
    try simp only [Act.put, List.setIfInBounds_toArray, List.set_cons_zero, List.set_cons_succ]
    refine wpAnyL_ready (rs := [2]) (by kernel_rfl) (by simp) ?_
    refine AllReadyL.cons rfl (fun K hK => ?_) AllReadyL.nil
    go_simp; go_at_call 136; refine (modulusOfC p _ HPP.out).mono ?_; rw [HTM.out]; rintro e w4 ⟨rfl, rfl⟩
    refine hK.out _ _ ?_ (fun hHeld => ?_)
    · exact hHeld
    clear hK K
    try simp only [Act.put, List.setIfInBounds_toArray, List.set_cons_zero, List.set_cons_succ]
    refine wpAnyL_free (i := 6) (v := ?_) (some 23) rfl rfl (by kernel_rfl) (by kernel_rfl) (by kernel_rfl) (by decide) (fun _ _ _ h => h) (Or.inl ⟨by rfl, ?_⟩) (fun h0 => by assumption) ?_
    rotate_left
    · intro wS
      go_simp
      try with_reducible rfl
    try simp only [Act.put, List.setIfInBounds_toArray, List.set_cons_zero, List.set_cons_succ]
    refine wpAnyL_ready (rs := [8]) (by kernel_rfl) (by simp) ?_
    refine AllReadyL.last rfl (by kernel_rfl) (fun K hK => ?_) AllReadyL.nil
    go_simp
    refine hK.out _ _ ?_
    clear hK K
    try simp only [Act.put, List.setIfInBounds_toArray, List.set_cons_zero, List.set_cons_succ]
    refine wpAnyL_done (by kernel_rfl) ?_ _
    refine NoPanic.normal ?_
    clear hHeld
    go_wp2_with fail
    go_meet
    exact ⟨by rw [HEE.out], HW3E.out⟩
  case rest =>
    obtain ⟨rfl, rfl⟩ := hcut
    clear hw3
    have hee := HEE.out
    have h1z := HSZ.out
    have h0z := HSB.out
    have HAA : Hid (eb ≠ g ∧ eb ≠ rb ∧ sb ≤ wc.heap.size ∧ sb ≤ g ∧ sb ≤ rb ∧ sb ≤ eb) := Lib.hid ⟨by omega, by omega, by have := HW3.out.size; omega, by omega, by omega, by omega⟩
    clear hee h1z h0z
    go_wp2_with fail
    refine (reducePC eb u rb rs.length rs.length g 888 (u + 1 + rs.length) (fun i => i) p _ _ HB3.out HP3.out HPP.out HAA.out.1 HAA.out.2.1 (by omega) hu12.2 (by decide) (by omega) hs3 (Nat.le_refl _)).mono ?_
    rintro e w5 ⟨s5, F5, rfl, hp5, hb5, heq5, ho5⟩
    rw [HCG.out.2] at hb5
    have HR5 : Hid (∀ i, i < rs.length → rowAtF F5 s5 (u + 1 + rs.length) i = (elimE p rs.length (row0 rs) u).1 i) := Lib.hid fun i hi => (heq5 i hi).trans (HCG.out.1 i hi)
    have HB5 := Lib.hid hb5
    have HP5 := Lib.hid hp5
    have HW5 := Lib.hid (HW3.out.trans (ho5.below HAA.out.2.2.1 (fun q hq => by have := HAA.out; omega)))
    have h5 := ho5.size
    clear hp5 hb5 heq5 ho5
    go_wp2
    go_ret
    exact ⟨eb, rb, g, s5, F5, rfl, ⟨HB5.out, HP5.out, HR5.out, by omega, by omega, HAA.out.1, HAA.out.2.1⟩, HAA.out.2.2.2.1, HAA.out.2.2.2.2.1, HAA.out.2.2.2.2.2, HW5.out⟩

end Go.Proofs.Ytnbgpeoceejolaa
