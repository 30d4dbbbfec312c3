/-
  The panic that stands for an error: who panics, who recovers.
-/
import Derived.Test.YtnbgpeoceejolabReg
import Derived.Test.YtnbgpeoceejolabBox
import Derived.Test.YtnbgpeoceejolabFormula
import Derived.Defers
import Derived.Recover
namespace Go.Proofs.Ytnbgpeoceejolab
open Go.RowKit

/-- The value of the panic tooLarge. -/
abbrev tooBig : Value := .iface 116 (.agg #[])

theorem as_told (v : Value) (w : World) : (Instr.typeAssert (.iface 116 v) 20 113 true).run Try.prog w = .ok (.tuple #[.iface 116 v, .bool true]) w := by kernel_rfl
theorem as_idle (w : World) : (Instr.typeAssert .nilIface 20 113 true).run Try.prog w = .ok (.tuple #[.nilIface, .bool false]) w := by kernel_rfl

theorem method_told (n : Nat) (w : World) : (method (n + 1) 116 (.agg #[]) "loop.example/g01085/impl.code").run Try.prog w = .ok (107, .agg #[]) w := by kernel_rfl

set_option linter.unusedSimpArgs false in
set_option maxHeartbeats 800000 in
theorem code_of (w : World) : Calls Try.prog 107 #[.agg #[]] w fun e w' => e = .returned (.int .i64 3) ∧ w' = w.alloc (.cells #[] 116) := by
  go_enter Try.func107, Try.ntmps107
  go_wp2
  go_ret
  exact ⟨rfl, rfl⟩

set_option linter.unusedSimpArgs false in
set_option maxHeartbeats 800000 in
theorem catch_idle (p : Addr) (w : World) :
    CallsD Try.prog 80 #[.pointer (some p)] .returning w fun e u' w' => e = .returned (.tuple #[]) ∧ u' = .returning ∧ w' = w := by
  have ha := as_idle
  refine callsD_of_wpS Try.func80 rfl fun c₀ cs hu => ?_
  apply wpS_seq
  apply wpS_region
  simp [wpOpsS, go_sem, recoverD, hu, Try.ntmps80, Exit.thenS, ha]
  apply wpS_seq
  apply wpS_region
  simp [wpOpsS, go_sem, Exit.thenS]
  refine wpS_cond (t := false) (by simp [Act.eval, Array.replicate]) ?_
  simp only [Bool.false_eq_true, if_false]
  refine wpS_of_wp (wp_skip ?_)
  cases c₀
  simp_all [bodyPostS, results, Try.results80]

set_option linter.unusedSimpArgs false in
set_option maxHeartbeats 800000 in
set_option maxRecDepth 100000 in
theorem catch_told (b : Nat) (x : Int) (older : List PanicEntry) (w : World) (hc : w.cell? ⟨b, 0, none⟩ = some (.int .i64 x)) (hz : w.frozen? ⟨b, 0, none⟩ = false) :
    CallsD Try.prog 80 #[.pointer (some ⟨b, 0, none⟩)] (.panicking ({ v := tooBig, recovered := false } :: older)) w fun e u' w' =>
      e = .returned (.tuple #[]) ∧ u' = .panicking ({ v := tooBig, recovered := true } :: older) ∧ w' = (w.setCell ⟨b, 0, none⟩ (.int .i64 3)).alloc (.cells #[] 116) := by
  have ha := as_told (.agg #[]) w
  have hb : b < w.heap.size := cell_block_lt hc
  have hc1 : (w.alloc (.cells #[] 116)).cell? ⟨b, 0, none⟩ = some (.int .i64 x) := by rw [World.cell?_alloc_past _ _ _ hb]; exact hc
  have hz1 : (w.alloc (.cells #[] 116)).frozen? ⟨b, 0, none⟩ = false := by rw [World.frozen?_alloc_past _ _ _ hb]; exact hz
  refine callsD_of_wpS Try.func80 rfl fun c₀ cs hu => ?_
  apply wpS_seq
  apply wpS_region
  simp [wpOpsS, go_sem, recoverD, hu, Try.ntmps80, Exit.thenS, ha]
  apply wpS_seq
  apply wpS_region
  simp [wpOpsS, go_sem, Exit.thenS]
  refine wpS_cond (t := true) (by simp [Act.eval, Array.replicate]) ?_
  simp only [if_true]
  refine wpS_of_wp ?_
  clear hu ha
  have hm := method_told
  go_wp2_with (go_at_call 107; refine (code_of _).mono ?_; rintro e w' ⟨rfl, rfl⟩)
  simp [bodyPostS, results, Try.results80]

set_option linter.unusedSimpArgs false in
set_option maxHeartbeats 800000 in
theorem addVariable_full (w : World) (b o : Nat) (hc : w.cell? ⟨b, o + 1, none⟩ = some (.int .i64 8)) (hc3 : w.cell? ⟨b, o + 3, none⟩ = some (.int .i64 8)) :
    Calls Try.prog 63 #[.pointer (some ⟨b, o, none⟩)] w fun e w' => e = .panicked [{ v := tooBig, recovered := false }] ∧ w' = w.drew := by
  have hpp : ∀ (v : Value) (w : World), (Instr.panic (.iface 116 v)).run Try.prog w = .halt (.panic (.iface 116 v)) w := fun _ _ => rfl
  go_enter Try.func63, Try.ntmps63
  go_wp2
  refine wp_region_noPanic ?_
  refine wp_region_late (S := (fun w' => w'.cell? ⟨b, o + 1, none⟩ = some (.int .i64 8) ∧ w'.cell? ⟨b, o + 3, none⟩ = some (.int .i64 8))) [] (by kernel_rfl) ?_ (fun hHeld => ?_)
  · exact ⟨hc, hc3⟩
  refine wpAnyL_free (i := 0) (v := ?_) (some 3) rfl rfl (by kernel_rfl) (by kernel_rfl) (by kernel_rfl) (by decide) (fun _ _ _ h => h) (Or.inl ⟨by rfl, ?_⟩) (fun h0 => by assumption) ?_
  rotate_left
  · intro wS
    go_simp
    try with_reducible rfl
  try simp only [Act.put, List.setIfInBounds_toArray, List.set_cons_zero, List.set_cons_succ]
  refine wpAnyL_free (i := 1) (v := ?_) (some 4) rfl rfl (by kernel_rfl) (by kernel_rfl) (by kernel_rfl) (by decide) (fun _ _ _ h => h) (Or.inl ⟨by rfl, ?_⟩) (fun h0 => by assumption) ?_
  rotate_left
  · intro wS
    go_simp
    try with_reducible rfl
  try simp only [Act.put, List.setIfInBounds_toArray, List.set_cons_zero, List.set_cons_succ]
  refine wpAnyL_free (i := 2) (v := ?_) (some 5) rfl rfl (by kernel_rfl) (by kernel_rfl) (by kernel_rfl) (by decide) (fun _ _ _ h => h) (Or.inl ⟨by rfl, ?_⟩) (fun h0 => by assumption) ?_
  rotate_left
  · intro wS
    go_simp
    try with_reducible rfl
  try simp only [Act.put, List.setIfInBounds_toArray, List.set_cons_zero, List.set_cons_succ]
  refine wpAnyL_free (i := 3) (v := ?_) (some 6) rfl rfl (by kernel_rfl) (by kernel_rfl) (by kernel_rfl) (by decide) (fun _ _ _ h => h) (Or.inl ⟨by rfl, ?_⟩) (fun h0 => by assumption) ?_
  rotate_left
  · intro wS
    go_simp
    try with_reducible rfl
  try simp only [Act.put, List.setIfInBounds_toArray, List.set_cons_zero, List.set_cons_succ]
  refine wpAnyL_take (i := 4) (v := ?_) (some 7) rfl rfl (by kernel_rfl) (by kernel_rfl) (by kernel_rfl) (by kernel_rfl) (by kernel_rfl) (fun _ _ _ h => h) (Or.inl ⟨by rfl, ?_⟩) (by assumption) ?_
  rotate_left
  · intro wS hSw
    try dsimp only at hSw
    go_simp
    try with_reducible rfl
  try simp only [Act.put, List.setIfInBounds_toArray, List.set_cons_zero, List.set_cons_succ]
  refine wpAnyL_free (i := 5) (v := ?_) (some 8) rfl rfl (by kernel_rfl) (by kernel_rfl) (by kernel_rfl) (by decide) (fun _ _ _ h => h) (Or.inl ⟨by rfl, ?_⟩) (fun h0 => by assumption) ?_
  rotate_left
  · intro wS
    go_simp
    try with_reducible rfl
  try simp only [Act.put, List.setIfInBounds_toArray, List.set_cons_zero, List.set_cons_succ]
  refine wpAnyL_free (i := 6) (v := ?_) (some 9) rfl rfl (by kernel_rfl) (by kernel_rfl) (by kernel_rfl) (by decide) (fun _ _ _ h => h) (Or.inl ⟨by rfl, ?_⟩) (fun h0 => by assumption) ?_
  rotate_left
  · intro wS
    go_simp
    try with_reducible rfl
  try simp only [Act.put, List.setIfInBounds_toArray, List.set_cons_zero, List.set_cons_succ]
  refine wpAnyL_free (i := 7) (v := ?_) (some 10) rfl rfl (by kernel_rfl) (by kernel_rfl) (by kernel_rfl) (by decide) (fun _ _ _ h => h) (Or.inl ⟨by rfl, ?_⟩) (fun h0 => by assumption) ?_
  rotate_left
  · intro wS
    go_simp
    try with_reducible rfl
  try simp only [Act.put, List.setIfInBounds_toArray, List.set_cons_zero, List.set_cons_succ]
  refine wpAnyL_take (i := 8) (v := ?_) (some 11) rfl rfl (by kernel_rfl) (by kernel_rfl) (by kernel_rfl) (by kernel_rfl) (by kernel_rfl) (fun _ _ _ h => h) (Or.inl ⟨by rfl, ?_⟩) (by assumption) ?_
  rotate_left
  · intro wS hSw
    try dsimp only at hSw
    go_simp
    try with_reducible rfl
  try simp only [Act.put, List.setIfInBounds_toArray, List.set_cons_zero, List.set_cons_succ]
  refine wpAnyL_free (i := 9) (v := ?_) (some 12) rfl rfl (by kernel_rfl) (by kernel_rfl) (by kernel_rfl) (by decide) (fun _ _ _ h => h) (Or.inl ⟨by rfl, ?_⟩) (fun h0 => by assumption) ?_
  rotate_left
  · intro wS
    go_simp
    try with_reducible rfl
  try simp only [Act.put, List.setIfInBounds_toArray, List.set_cons_zero, List.set_cons_succ]
  refine wpAnyL_done (by kernel_rfl) ?_ _
  refine NoPanic.normal ?_
  clear hHeld
  go_wp2
  exact ⟨rfl, rfl, rfl⟩

/-- The world in which resultOf calls what it is handed. -/
abbrev wRes (w : World) : World := (w.alloc (.cells #[.int .i64 0, .int .i64 0, .slice none 0 0] 32)).alloc (.cells #[.int .i64 0] 2)

theorem wRes_size (w : World) : (wRes w).heap.size = w.heap.size + 2 := by simp [wRes, go_sem]
theorem wRes_w0 (w : World) : Below w.heap.size w (wRes w) := ((Below.refl _ _).alloc (Nat.le_refl _) _).alloc (by simp [go_sem]) _
theorem wRes_box (w : World) : Box 32 (wRes w) w.heap.size #[.int .i64 0, .int .i64 0, .slice none 0 0] := by
  have h := Box.new 32 w #[.int .i64 0, .int .i64 0, .slice none 0 0]
  refine h.same ?_
  exact heap_alloc_old _ _ h.lt
theorem wRes_code (w : World) : Box 2 (wRes w) (w.heap.size + 1) #[.int .i64 0] := by
  have h := Box.new 2 (w.alloc (.cells #[.int .i64 0, .int .i64 0, .slice none 0 0] 32)) #[.int .i64 0]
  simpa [go_sem] using h
theorem wRes_below {w w' : World} (h : Below (w.heap.size + 2) (wRes w) w') : Box 32 w' w.heap.size #[.int .i64 0, .int .i64 0, .slice none 0 0] ∧ Box 2 w' (w.heap.size + 1) #[.int .i64 0] :=
  ⟨(wRes_box w).same (h.block _ (by omega)), (wRes_code w).same (h.block _ (by omega))⟩

set_option linter.unusedSimpArgs false in
set_option maxHeartbeats 800000 in
theorem resultOf_ok {R : Int → Int → Option Addr → Nat → Nat → Int → World → Prop} (F : FuncId) (cap : Array Value) (w : World)
    (hF : ∀ (args : Array Value) (w : World), (callFunc F args).run Try.prog w = .ok (.enter F args) w)
    (h : Calls Try.prog F cap (wRes w) fun e w' => ∃ x y a n c cd, e = .returned (.tuple #[.agg #[.int .i64 x, .int .i64 y, .slice a n c], .int .i64 cd]) ∧ Below (w.heap.size + 2) (wRes w) w' ∧ R x y a n c cd w') :
    Calls Try.prog 60 #[.func (.func F) #[] cap] w fun e w' => ∃ x y a n c cd w2, R x y a n c cd w2 ∧ Below (w.heap.size + 2) (wRes w) w2 ∧
      e = .returned (.tuple #[.agg #[.int .i64 x, .int .i64 y, .slice a n c], .int .i64 cd]) ∧ Only (fun k => k = w.heap.size ∨ k = w.heap.size + 1) w2 w' := by
  have hmf : ∀ (fn : Fn) (first cap : Array Value) (w : World), (Instr.makeFunc fn first cap).run Try.prog w = .ok (.func fn first cap) w := fun _ _ _ _ => rfl
  go_enter_defers Try.func60, Try.ntmps60
  go_wp2_with (refine h.mono ?_; rintro e w' ⟨x, y, a, n, c, cd, rfl, hb, hr⟩; obtain ⟨hB, hC⟩ := wRes_below hb; have hc0 := hB.c 0 rfl; have hc1 := hB.c 1 rfl; have hc2 := hB.c 2 rfl; have hd0 := hC.c 0 rfl; have hf0 := hB.free 0; have hf1 := hB.free 1; have hf2 := hB.free 2; have hg0 := hC.free 0)
  refine leaves_cons (f := 80) (args := #[.pointer (some ⟨w.heap.size + 1, 0, none⟩)]) (by simp) (by simp [go_sem]) ?_
  refine (catch_idle ⟨w.heap.size + 1, 0, none⟩ _).mono ?_
  rintro e u' w'' ⟨rfl, rfl, rfl⟩
  simp [Leaves, settle, results, Try.results60, go_sem, hc0, hc1, hc2, hd0]
  exact ⟨x, y, a, n, c, cd, w', hr, hb, ⟨⟨rfl, rfl, rfl, rfl, rfl⟩, rfl⟩, ((((Only.refl _ _).setCell (Or.inl rfl) _).setCell (Or.inl rfl) _).setCell (Or.inl rfl) _).setCell (Or.inr rfl) _⟩

set_option linter.unusedSimpArgs false in
set_option maxHeartbeats 800000 in
theorem resultOf_told (F : FuncId) (cap : Array Value) (w : World)
    (hF : ∀ (args : Array Value) (w : World), (callFunc F args).run Try.prog w = .ok (.enter F args) w)
    (h : Calls Try.prog F cap (wRes w) fun e w' => e = .panicked [{ v := tooBig, recovered := false }] ∧ Below (w.heap.size + 2) (wRes w) w') :
    Calls Try.prog 60 #[.func (.func F) #[] cap] w fun e w' => e = .returned (.tuple #[.agg #[.int .i64 0, .int .i64 0, .slice none 0 0], .int .i64 3]) ∧ Below w.heap.size w w' := by
  have hmf : ∀ (fn : Fn) (first cap : Array Value) (w : World), (Instr.makeFunc fn first cap).run Try.prog w = .ok (.func fn first cap) w := fun _ _ _ _ => rfl
  go_enter_defers Try.func60, Try.ntmps60
  go_wp2_with (refine h.mono ?_; rintro e w' ⟨rfl, hb⟩; obtain ⟨hB, hC⟩ := wRes_below hb; have hc0 := hB.c 0 rfl; have hc1 := hB.c 1 rfl; have hc2 := hB.c 2 rfl; have hd0 := hC.c 0 rfl; have hf0 := hB.free 0; have hf1 := hB.free 1; have hf2 := hB.free 2; have hg0 := hC.free 0)
  refine leaves_cons (f := 80) (args := #[.pointer (some ⟨w.heap.size + 1, 0, none⟩)]) (by simp) (by simp [go_sem]) ?_
  refine (catch_told (w.heap.size + 1) 0 [] _ ?_ ?_).mono ?_
  · exact hd0
  · exact hg0
  rintro e u' w'' ⟨rfl, rfl, rfl⟩
  have hl : w.heap.size + 1 < (w'.setCell ⟨w.heap.size + 1, 0, none⟩ (.int .i64 3)).heap.size := by have := hC.lt; simpa [go_sem] using this
  have k0 : ((w'.setCell ⟨w.heap.size + 1, 0, none⟩ (.int .i64 3)).alloc (.cells #[] 116)).cell? ⟨w.heap.size, 0, none⟩ = some (.int .i64 0) := by
    rw [World.cell?_alloc_past _ _ _ (by omega)]; exact (World.cell?_setCell_other _ _ _ _ (by simp)).trans hc0
  have k1 : ((w'.setCell ⟨w.heap.size + 1, 0, none⟩ (.int .i64 3)).alloc (.cells #[] 116)).cell? ⟨w.heap.size, 1, none⟩ = some (.int .i64 0) := by
    rw [World.cell?_alloc_past _ _ _ (by omega)]; exact (World.cell?_setCell_other _ _ _ _ (by simp)).trans hc1
  have k2 : ((w'.setCell ⟨w.heap.size + 1, 0, none⟩ (.int .i64 3)).alloc (.cells #[] 116)).cell? ⟨w.heap.size, 2, none⟩ = some (.slice none 0 0) := by
    rw [World.cell?_alloc_past _ _ _ (by omega)]; exact (World.cell?_setCell_other _ _ _ _ (by simp)).trans hc2
  have k3 : ((w'.setCell ⟨w.heap.size + 1, 0, none⟩ (.int .i64 3)).alloc (.cells #[] 116)).cell? ⟨w.heap.size + 1, 0, none⟩ = some (.int .i64 3) := by
    rw [World.cell?_alloc_past _ _ _ hl]; simp [go_sem, hd0]
  simp [Leaves, settle, results, Try.results60, go_sem, k0, k1, k2, k3]
  exact (((wRes_w0 w).trans (hb.mono (by omega))).setCell (by simp) _).alloc (by have := hC.lt; simp [go_sem]; omega) _

/-- The world in which makeFormula calls what adds. -/
abbrev wMk (w : World) (fr va : Int) : World := (w.alloc (.cells #[.int .i64 0, .int .i64 0, .slice none 0 0] 32)).alloc (.cells #[.int .i64 fr, .int .i64 va, .slice none 0 0, .int .i64 8, .int .i64 16] 96)
theorem wMk_size (w : World) (fr va : Int) : (wMk w fr va).heap.size = w.heap.size + 2 := by simp [wMk, go_sem]
theorem wMk_w0 (w : World) (fr va : Int) : Below w.heap.size w (wMk w fr va) := ((Below.refl _ _).alloc (Nat.le_refl _) _).alloc (by simp [go_sem]) _
theorem wMk_box (w : World) (fr va : Int) : Box 32 (wMk w fr va) w.heap.size #[.int .i64 0, .int .i64 0, .slice none 0 0] := by
  have h := Box.new 32 w #[.int .i64 0, .int .i64 0, .slice none 0 0]
  refine h.same ?_
  exact heap_alloc_old _ _ h.lt
theorem wMk_made (w : World) (fr va : Int) : Box 96 (wMk w fr va) (w.heap.size + 1) #[.int .i64 fr, .int .i64 va, .slice none 0 0, .int .i64 8, .int .i64 16] := by
  have h := Box.new 96 (w.alloc (.cells #[.int .i64 0, .int .i64 0, .slice none 0 0] 32)) #[.int .i64 fr, .int .i64 va, .slice none 0 0, .int .i64 8, .int .i64 16]
  simpa [go_sem] using h

set_option linter.unusedSimpArgs false in
set_option maxHeartbeats 800000 in
theorem make1_ok {R : Int → Int → Option Addr → Nat → Nat → World → Prop} (G : FuncId) (cap : Array Value) (w : World) (b0 b1 b2 : Nat) (fr va : Int)
    (hG : ∀ (args : Array Value) (w : World), (callFunc G args).run Try.prog w = .ok (.enter G args) w)
    (h0 : w.cell? ⟨b0, 0, none⟩ = some (.int .i64 fr)) (h1 : w.cell? ⟨b1, 0, none⟩ = some (.int .i64 va)) (h2 : w.cell? ⟨b2, 0, none⟩ = some (.func (.func G) #[] cap))
    (h : ∀ wM, Below w.heap.size w wM → wM.heap.size = w.heap.size + 2 → Box 96 wM (w.heap.size + 1) #[.int .i64 fr, .int .i64 va, .slice none 0 0, .int .i64 8, .int .i64 16] →
      Calls Try.prog G (#[.pointer (some ⟨w.heap.size + 1, 0, none⟩)] ++ cap) wM fun e w' => e = .returned (.tuple #[]) ∧ ∃ x y a n c, Box 96 w' (w.heap.size + 1) #[.int .i64 x, .int .i64 y, .slice a n c, .int .i64 8, .int .i64 16] ∧ Below (w.heap.size + 1) wM w' ∧ R x y a n c w') :
    Calls Try.prog 61 #[.pointer (some ⟨b0, 0, none⟩), .pointer (some ⟨b1, 0, none⟩), .pointer (some ⟨b2, 0, none⟩)] w fun e w' => ∃ x y a n c w2, R x y a n c w2 ∧ Below w.heap.size w w2 ∧
      e = .returned (.tuple #[.agg #[.int .i64 x, .int .i64 y, .slice a n c], .int .i64 0]) ∧ Only (fun k => k = w.heap.size) w2 w' := by
  have hl0 := cell_block_lt h0
  have hl1 := cell_block_lt h1
  have hl2 := cell_block_lt h2
  go_enter Try.func61, Try.ntmps61
  have hq := h _ (wMk_w0 w fr va) (wMk_size w fr va) (wMk_made w fr va)
  go_wp2_with (refine hq.mono ?_; rintro e w' ⟨rfl, x, y, a, n, c, hB, hb, hr⟩; have hD := (wMk_box w fr va).same (hb.block _ (by omega)); have hc0 := hB.c 0 rfl; have hc1 := hB.c 1 rfl; have hc2 := hB.c 2 rfl; have hd0 := hD.c 0 rfl; have hd1 := hD.c 1 rfl; have hd2 := hD.c 2 rfl; have hf0 := hD.free 0; have hf1 := hD.free 1; have hf2 := hD.free 2)
  simp [bodyPost, results, Try.results61, go_sem, hd0, hd1, hd2]
  exact ⟨x, y, a, n, c, w', hr, (wMk_w0 w fr va).trans (hb.mono (by omega)), ⟨rfl, rfl, rfl, rfl, rfl⟩, by refine Only.setCell (Only.setCell (Only.setCell (Only.refl _ _) ?_ _) ?_ _) ?_ _ <;> rfl⟩

set_option linter.unusedSimpArgs false in
set_option maxHeartbeats 800000 in
theorem make1_told (G : FuncId) (cap : Array Value) (w : World) (b0 b1 b2 : Nat) (fr va : Int)
    (hG : ∀ (args : Array Value) (w : World), (callFunc G args).run Try.prog w = .ok (.enter G args) w)
    (h0 : w.cell? ⟨b0, 0, none⟩ = some (.int .i64 fr)) (h1 : w.cell? ⟨b1, 0, none⟩ = some (.int .i64 va)) (h2 : w.cell? ⟨b2, 0, none⟩ = some (.func (.func G) #[] cap))
    (h : ∀ wM, Below w.heap.size w wM → wM.heap.size = w.heap.size + 2 → Box 96 wM (w.heap.size + 1) #[.int .i64 fr, .int .i64 va, .slice none 0 0, .int .i64 8, .int .i64 16] →
      Calls Try.prog G (#[.pointer (some ⟨w.heap.size + 1, 0, none⟩)] ++ cap) wM fun e w' => e = .panicked [{ v := tooBig, recovered := false }] ∧ Below (w.heap.size + 1) wM w') :
    Calls Try.prog 61 #[.pointer (some ⟨b0, 0, none⟩), .pointer (some ⟨b1, 0, none⟩), .pointer (some ⟨b2, 0, none⟩)] w fun e w' => e = .panicked [{ v := tooBig, recovered := false }] ∧ Below w.heap.size w w' := by
  have hl0 := cell_block_lt h0
  have hl1 := cell_block_lt h1
  have hl2 := cell_block_lt h2
  go_enter Try.func61, Try.ntmps61
  have hq := h _ (wMk_w0 w fr va) (wMk_size w fr va) (wMk_made w fr va)
  go_wp2_with (refine hq.mono ?_; rintro e w' ⟨rfl, hb⟩)
  exact ⟨rfl, rfl, (wMk_w0 w fr va).trans (hb.mono (by omega))⟩

/-- The world in which makeFormula calls resultOf. -/
abbrev w4F (w : World) (fr va : Int) (g : Value) : World := (((w.alloc (.cells #[.int .i64 fr] 2)).alloc (.cells #[.int .i64 va] 2)).alloc (.cells #[g] 68)).alloc (.cells #[.int .i64 0, .int .i64 0, .slice none 0 0] 32)
theorem w4F_size (w : World) (fr va : Int) (g : Value) : (w4F w fr va g).heap.size = w.heap.size + 4 := by simp [w4F, go_sem]
theorem w4F_w0 (w : World) (fr va : Int) (g : Value) : Below w.heap.size w (w4F w fr va g) := ((((Below.refl _ _).alloc (Nat.le_refl _) _).alloc (by simp [go_sem] <;> omega) _).alloc (by simp [go_sem] <;> omega) _).alloc (by simp [go_sem] <;> omega) _
theorem w4F_cells (w : World) (fr va : Int) (g : Value) : (w4F w fr va g).cell? ⟨w.heap.size, 0, none⟩ = some (.int .i64 fr) ∧ (w4F w fr va g).cell? ⟨w.heap.size + 1, 0, none⟩ = some (.int .i64 va) ∧ (w4F w fr va g).cell? ⟨w.heap.size + 2, 0, none⟩ = some g := by
  have h1 := Box.new 2 w #[.int .i64 fr]
  have h2 := Box.new 2 (w.alloc (.cells #[.int .i64 fr] 2)) #[.int .i64 va]
  have h3 := Box.new 68 ((w.alloc (.cells #[.int .i64 fr] 2)).alloc (.cells #[.int .i64 va] 2)) #[g]
  have e1 := (h1.below ((((Below.refl _ _).alloc (Nat.le_refl _) (.cells #[.int .i64 va] 2)).alloc (by simp [go_sem] <;> omega) (.cells #[g] 68)).alloc (by simp [go_sem] <;> omega) (.cells #[.int .i64 0, .int .i64 0, .slice none 0 0] 32))).c 0 rfl
  have e2 := (h2.below (((Below.refl _ _).alloc (Nat.le_refl _) (.cells #[g] 68)).alloc (by simp [go_sem] <;> omega) (.cells #[.int .i64 0, .int .i64 0, .slice none 0 0] 32))).c 0 rfl
  have e3 := (h3.below ((Below.refl _ _).alloc (Nat.le_refl _) (.cells #[.int .i64 0, .int .i64 0, .slice none 0 0] 32))).c 0 rfl
  exact ⟨e1, by have e := e2; simp only [World.size_alloc] at e; exact e, by have e := e3; simp only [World.size_alloc] at e; exact e⟩
theorem w4F_box (w : World) (fr va : Int) (g : Value) : Box 32 (w4F w fr va g) (w.heap.size + 3) #[.int .i64 0, .int .i64 0, .slice none 0 0] := by
  have h := Box.new 32 (((w.alloc (.cells #[.int .i64 fr] 2)).alloc (.cells #[.int .i64 va] 2)).alloc (.cells #[g] 68)) #[.int .i64 0, .int .i64 0, .slice none 0 0]
  simpa [go_sem] using h

set_option linter.unusedSimpArgs false in
set_option maxHeartbeats 800000 in
theorem makeFormula_ok {R : Int → Int → Option Addr → Nat → Nat → World → Prop} (G : FuncId) (cap : Array Value) (w : World) (fr va : Int)
    (hG : ∀ (args : Array Value) (w : World), (callFunc G args).run Try.prog w = .ok (.enter G args) w)
    (h : ∀ wM, Below w.heap.size w wM → wM.heap.size = w.heap.size + 8 → Box 96 wM (w.heap.size + 7) #[.int .i64 fr, .int .i64 va, .slice none 0 0, .int .i64 8, .int .i64 16] →
      Calls Try.prog G (#[.pointer (some ⟨w.heap.size + 7, 0, none⟩)] ++ cap) wM fun e w' => e = .returned (.tuple #[]) ∧ ∃ x y a n c, Box 96 w' (w.heap.size + 7) #[.int .i64 x, .int .i64 y, .slice a n c, .int .i64 8, .int .i64 16] ∧ Below (w.heap.size + 7) wM w' ∧ R x y a n c w') :
    Calls Try.prog 34 #[.int .i64 fr, .int .i64 va, .func (.func G) #[] cap] w fun e w' => ∃ x y a n c w2, R x y a n c w2 ∧ Below w.heap.size w w2 ∧
      e = .returned (.tuple #[.agg #[.int .i64 x, .int .i64 y, .slice a n c], .int .i64 0]) ∧ Only (fun k => w.heap.size ≤ k ∧ k < w.heap.size + 7) w2 w' := by
  have hmf : ∀ (fn : Fn) (first cap : Array Value) (w : World), (Instr.makeFunc fn first cap).run Try.prog w = .ok (.func fn first cap) w := fun _ _ _ _ => rfl
  have hF : ∀ (args : Array Value) (w : World), (callFunc 61 args).run Try.prog w = .ok (.enter 61 args) w := fun args w => by simp [go_sem]
  have hs4 := w4F_size w fr va (.func (.func G) #[] cap)
  have hb4 := w4F_w0 w fr va (.func (.func G) #[] cap)
  obtain ⟨k0, k1, k2⟩ := w4F_cells w fr va (.func (.func G) #[] cap)
  have hx4 := w4F_box w fr va (.func (.func G) #[] cap)
  have hq : Calls Try.prog 61 #[.pointer (some ⟨w.heap.size, 0, none⟩), .pointer (some ⟨w.heap.size + 1, 0, none⟩), .pointer (some ⟨w.heap.size + 2, 0, none⟩)] (wRes (w4F w fr va (.func (.func G) #[] cap))) _ :=
    make1_ok (R := R) G cap (wRes (w4F w fr va (.func (.func G) #[] cap))) w.heap.size (w.heap.size + 1) (w.heap.size + 2) fr va hG (cell_later (wRes_w0 _) k0) (cell_later (wRes_w0 _) k1) (cell_later (wRes_w0 _) k2)
      (by
        rw [wRes_size, hs4]
        exact fun wM h1 h2 h3 => h wM (hb4.trans (((wRes_w0 _).mono (by omega)).trans (h1.mono (by omega)))) h2 h3)
  rw [wRes_size, hs4] at hq
  have hr := resultOf_ok (R := fun x y a n c cd w2 => cd = 0 ∧ ∃ w1, R x y a n c w1 ∧ Below (w.heap.size + 6) (wRes (w4F w fr va (.func (.func G) #[] cap))) w1 ∧ Only (fun k => k = w.heap.size + 6) w1 w2) 61 _ _ hF (hq.mono (by
    rintro e w' ⟨x, y, a, n, c, w2, g1, g2, rfl, g3⟩
    exact ⟨x, y, a, n, c, 0, rfl, by rw [hs4]; exact (g2.mono (by omega)).trans (g3.below (by have := g2.size; rw [wRes_size, hs4] at this; omega) (fun k hk => by omega)), rfl, w2, g1, g2, g3⟩))
  rw [hs4] at hr
  go_enter Try.func34, Try.ntmps34
  go_wp2_with (go_at_call 60; refine hr.mono ?_; rintro e w' ⟨x, y, a, n, c, cd, w2, ⟨rfl, w1, g1, g2, g3⟩, g4, rfl, g5⟩; have hz := g4.size; rw [wRes_size, hs4] at hz; have hE := ((hx4.below (wRes_w0 _)).same (g4.block _ (by omega))).same (g5.block _ (by omega) (by omega)); have hd0 : w'.cell? ⟨w.heap.size + 1 + 1 + 1, 0, none⟩ = some (.int .i64 0) := hE.c 0 rfl; have hd1 : w'.cell? ⟨w.heap.size + 1 + 1 + 1, 1, none⟩ = some (.int .i64 0) := hE.c 1 rfl; have hd2 : w'.cell? ⟨w.heap.size + 1 + 1 + 1, 2, none⟩ = some (.slice none 0 0) := hE.c 2 rfl; have hf0 : w'.frozen? ⟨w.heap.size + 1 + 1 + 1, 0, none⟩ = false := hE.free 0; have hf1 : w'.frozen? ⟨w.heap.size + 1 + 1 + 1, 1, none⟩ = false := hE.free 1; have hf2 : w'.frozen? ⟨w.heap.size + 1 + 1 + 1, 2, none⟩ = false := hE.free 2)
  simp [bodyPost, results, Try.results34, go_sem, hd0, hd1, hd2]
  refine ⟨x, y, a, n, c, w1, g1, hb4.trans (((wRes_w0 _).mono (by omega)).trans (g2.mono (by omega))), ⟨rfl, rfl, rfl, rfl, rfl⟩, ?_⟩
  refine Only.setCell (Only.setCell (Only.setCell ((g3.mono (fun k hk => by omega)).trans (g5.mono (fun k hk => by omega))) ?_ _) ?_ _) ?_ _ <;> (constructor <;> simp <;> omega)

set_option linter.unusedSimpArgs false in
set_option maxHeartbeats 800000 in
theorem makeFormula_told (G : FuncId) (cap : Array Value) (w : World) (fr va : Int)
    (hG : ∀ (args : Array Value) (w : World), (callFunc G args).run Try.prog w = .ok (.enter G args) w)
    (h : ∀ wM, Below w.heap.size w wM → wM.heap.size = w.heap.size + 8 → Box 96 wM (w.heap.size + 7) #[.int .i64 fr, .int .i64 va, .slice none 0 0, .int .i64 8, .int .i64 16] →
      Calls Try.prog G (#[.pointer (some ⟨w.heap.size + 7, 0, none⟩)] ++ cap) wM fun e w' => e = .panicked [{ v := tooBig, recovered := false }] ∧ Below (w.heap.size + 7) wM w') :
    Calls Try.prog 34 #[.int .i64 fr, .int .i64 va, .func (.func G) #[] cap] w fun e w' => e = .returned (.tuple #[.agg #[.int .i64 0, .int .i64 0, .slice none 0 0], .int .i64 3]) ∧ Below w.heap.size w w' := by
  have hmf : ∀ (fn : Fn) (first cap : Array Value) (w : World), (Instr.makeFunc fn first cap).run Try.prog w = .ok (.func fn first cap) w := fun _ _ _ _ => rfl
  have hF : ∀ (args : Array Value) (w : World), (callFunc 61 args).run Try.prog w = .ok (.enter 61 args) w := fun args w => by simp [go_sem]
  have hs4 := w4F_size w fr va (.func (.func G) #[] cap)
  have hb4 := w4F_w0 w fr va (.func (.func G) #[] cap)
  obtain ⟨k0, k1, k2⟩ := w4F_cells w fr va (.func (.func G) #[] cap)
  have hx4 := w4F_box w fr va (.func (.func G) #[] cap)
  have hq : Calls Try.prog 61 #[.pointer (some ⟨w.heap.size, 0, none⟩), .pointer (some ⟨w.heap.size + 1, 0, none⟩), .pointer (some ⟨w.heap.size + 2, 0, none⟩)] (wRes (w4F w fr va (.func (.func G) #[] cap))) _ :=
    make1_told G cap (wRes (w4F w fr va (.func (.func G) #[] cap))) w.heap.size (w.heap.size + 1) (w.heap.size + 2) fr va hG (cell_later (wRes_w0 _) k0) (cell_later (wRes_w0 _) k1) (cell_later (wRes_w0 _) k2)
      (by
        rw [wRes_size, hs4]
        exact fun wM h1 h2 h3 => h wM (hb4.trans (((wRes_w0 _).mono (by omega)).trans (h1.mono (by omega)))) h2 h3)
  rw [wRes_size, hs4] at hq
  have hr := resultOf_told 61 _ _ hF (hq.mono (by
    rintro e w' ⟨rfl, g2⟩
    exact ⟨rfl, by rw [hs4]; exact g2⟩))
  rw [hs4] at hr
  go_enter Try.func34, Try.ntmps34
  go_wp2_with (go_at_call 60; refine hr.mono ?_; rintro e w' ⟨rfl, g5⟩; have hE := hx4.same (g5.block _ (by omega)); have hd0 : w'.cell? ⟨w.heap.size + 1 + 1 + 1, 0, none⟩ = some (.int .i64 0) := hE.c 0 rfl; have hd1 : w'.cell? ⟨w.heap.size + 1 + 1 + 1, 1, none⟩ = some (.int .i64 0) := hE.c 1 rfl; have hd2 : w'.cell? ⟨w.heap.size + 1 + 1 + 1, 2, none⟩ = some (.slice none 0 0) := hE.c 2 rfl; have hf0 : w'.frozen? ⟨w.heap.size + 1 + 1 + 1, 0, none⟩ = false := hE.free 0; have hf1 : w'.frozen? ⟨w.heap.size + 1 + 1 + 1, 1, none⟩ = false := hE.free 1; have hf2 : w'.frozen? ⟨w.heap.size + 1 + 1 + 1, 2, none⟩ = false := hE.free 2)
  simp [bodyPost, results, Try.results34, go_sem, hd0, hd1, hd2]
  refine Below.setCell (Below.setCell (Below.setCell (hb4.trans (g5.mono (by omega))) ?_ _) ?_ _) ?_ _ <;> (simp <;> omega)

end Go.Proofs.Ytnbgpeoceejolab
