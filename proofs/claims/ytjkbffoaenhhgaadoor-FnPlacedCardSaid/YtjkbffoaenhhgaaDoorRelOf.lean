/-
  The relation of a set of numbers: relOf of the program.
-/
import Derived.Test.YtjkbffoaenhhgaaDoorTupleOf
namespace Go.Proofs.YtjkbffoaenhhgaaDoor
open Go.RowKit
attribute [local go_sem] Oper.semAt_some

/-- append as one step of a region that draws, inside a fence. -/
theorem appStep_own {F : Fence} {n : Nat} {P : Program} {ops : Array Oper} {E : Prop} (w : World) {o : Oper} {a : Act} {K : Act → World → Prop} {Q : Exit → Act → World → Prop} (hg : o.guard = none)
    (s x : Operand) (t : TypeId) (hop : o.op = Op.call { callee := Callee.builtin Builtin.append, args := #[s, x], argTypes := #[t, t] })
    (base : Nat) (e : TypeId) (i : TypeInfo) (z : Value) (size bytes : Nat) (h1 : P.underlying t = some (.slice e)) (h2 : P.info? e = some i) (h3 : i.zero = some z) (h4 : i.size = size) (h5 : i.bytes = bytes) (h6 : z.cells.size = size) (h7 : 0 < size)
    (v : Value) (k : Nat) (xs : List Value) (hs : a.eval s = v) (hown : w.ownsRow base e size v k xs) (ad : Addr) (m c : Nat) (news : List Value) (hx : a.eval x = .slice (some ad) m c) (hn : news.length = m * size)
    (hc : ∀ j u, news[j]? = some u → w.cell? (ad.add j) = some u) (h1c : ∀ u ∈ news, u.oneCell' = true) (b1 : k + m ≤ maxLen) (b2 : (k + m) * bytes ≤ 140737488355328) (b3 : base ≤ w.heap.size)
    (hK : ∀ v' w', w'.ownsRow base e size v' (k + m) (xs ++ news) → w.grownBy w' v.ownBlock → (v' = .slice none 0 0 ↔ v = .slice none 0 0 ∧ m = 0) → K (a.put o.dst v') w') :
    if Region.wanted o (yielded ops a.tmps) = true then Oper.wpIn F n P o a w K Q else E := by
  rw [if_pos (by simp [Region.wanted, hg])]
  obtain ⟨v', w', hrun, r1, r2, r3⟩ := run_append_own (P := P) w base t o.type e i z size bytes h1 h2 h3 h4 h5 h6 h7 v k xs hown ad m c news hn hc h1c b1 b2 b3
  unfold Oper.wpIn
  refine ⟨?_, ?_⟩
  · simp [Oper.about, hop, resolve, Target.leads, Sem.run_pure]
  · rw [Oper.semAt_plain F _ _ (by rw [hop]; intro c hc'; cases hc')]
    simp [execOp, hop, resolve, invoke, builtin, hs, hx, hrun, Result.andThen]
    exact hK v' w' r1 r2 r3

/-- A region without a defer statement goes in a round as it goes elsewhere. -/
theorem wpIn_round {F : Fence} {l n : Nat} {P : Program} {o : Oper} {a : Act} {w : World} {K : Act → World → Prop} {Q : Exit → Act → World → Prop} (hd : ∀ c, o.op ≠ .defer c) (h : Oper.wpIn F n P o a w K Q) : Oper.wpIn (F.inRound l) n P o a w K Q := by
  unfold Oper.wpIn at *
  refine ⟨h.1, ?_⟩
  have h2 := h.2
  rw [Oper.semAt_plain _ _ _ hd] at h2 ⊢
  exact h2
theorem wpAnyIn_round {F : Fence} {l n : Nat} {P : Program} {md : Region.Mode} {ops : Array Oper} {Q : Exit → Act → World → Prop} (_hro : F.round = none) (hnd : ∀ (i : Nat) (o : Oper), ops[i]? = some o → ∀ c, o.op ≠ .defer c) :
    ∀ (fuel : Nat) (listed : Array Bool) (a : Act) (w : World), wpAnyIn F n P md ops Q fuel listed a w → wpAnyIn (F.inRound l) n P md ops Q fuel listed a w := by
  intro fuel
  induction fuel with
  | zero => intro listed a w h; exact h
  | succ fuel ih =>
    intro listed a w h
    refine ⟨h.1, fun i hi => ?_⟩
    have h2 := wpOpIn_mono (fun a w => ih (listed.setIfInBounds i true) a w) (h.2 i hi)
    unfold wpOpIn at h2 ⊢
    cases ho : ops[i]? with
    | none => simpa [ho] using h2
    | some o =>
      simp only [ho] at h2 ⊢
      by_cases hw : Region.wanted o (yielded ops a.tmps) = true
      · simp only [hw, if_true] at h2 ⊢
        exact wpIn_round (hnd i o ho) h2
      · simp only [hw] at h2 ⊢
        exact h2
def noDefer (ops : Array Oper) : Bool := ops.all fun o => match o.op with | .defer .. => false | _ => true
theorem noDefer_spec {ops : Array Oper} (h : noDefer ops = true) (i : Nat) (o : Oper) (ho : ops[i]? = some o) (c : Call) : o.op ≠ .defer c := by
  intro he
  obtain ⟨hi, rfl⟩ := Array.getElem?_eq_some_iff.1 ho
  have := Array.all_eq_true.1 h i hi
  rw [he] at this
  simp at this

/-- What a loop over the numbers of a set keeps: the rows of those that have come. -/
def RelI (size ar : Nat) (w : World) (pre : List Nat) (W : World) : Prop :=
  ((Boxed W w.heap.size 2 (.int .i64 size) ∧ Boxed W (w.heap.size + 1) 2 (.int .i64 ar) ∧ RelBox W (w.heap.size + 1 + 1 + 1) (.int .i64 0) (.slice none 0 0)) ∧
    ∃ (a : Option Addr) (c : Nat) (V : Nat → Value), RelBox W (w.heap.size + 1 + 1 + 1 + 1) (.int .i64 ar) (.slice a pre.length c) ∧ OwnGridV W (w.heap.size + 5) W.heap.size (.slice a pre.length c) pre.length V (fun i => digs size ar (cut (pre.getD i 0)))) ∧ Below w.heap.size w W

theorem ownsRow_turned {X Y : World} {row : Option Nat} {B e s n : Nat} {v : Value} {xs : List Value} (hr : X.ownsRow B e s v n xs) (hg : X.grownBy Y row) (hrow : ∀ r, row = some r → ∃ o : Obj, X.heap[r]? = some o ∧ o.isCells = false) : Y.ownsRow B e s v n xs := by
  refine hr.kept hg ?_
  rcases hr.2 with ⟨rfl, _⟩ | ⟨g, cap, cur, rfl, _, hgb, _⟩
  · exact .inl rfl
  · refine .inr fun e' => ?_
    obtain ⟨o, ho, hc⟩ := hrow g (by simpa [Value.ownBlock] using e'.symm)
    rw [hgb] at ho; cases ho; cases hc
theorem OwnGridV.turned {X Y : World} {row : Option Nat} {B E n : Nat} {v : Value} {V : Nat → Value} {f : Nat → List Int} (h : OwnGridV X B E v n V f) (hg : X.grownBy Y row) (hrow : ∀ r, row = some r → ∃ o : Obj, X.heap[r]? = some o ∧ o.isCells = false) : OwnGridV Y B E v n V f :=
  ⟨ownsRow_turned h.outer hg hrow, Nat.le_trans h.le hg.size, h.top, fun i hi => ownsRow_turned (h.rows i hi) hg hrow, h.hi, h.apart⟩
theorem cells_turned {X Y : World} {row : Option Nat} {B : Nat} {cs : Array Value} {t : TypeId} {z : Nat × Nat} (h : X.heap[B]? = some (.cells cs t z)) (hg : X.grownBy Y row) (hrow : ∀ r, row = some r → ∃ o : Obj, X.heap[r]? = some o ∧ o.isCells = false) : Y.heap[B]? = some (.cells cs t z) := by
  refine (hg.block B (Array.getElem?_eq_some_iff.1 h).1 fun e => ?_).trans h
  obtain ⟨o, ho, hc⟩ := hrow B e.symm
  rw [h] at ho; cases ho; cases hc

theorem relI_own (size ar : Nat) (w : World) (B : Nat) (hB : w.heap.size ≤ B) : OwnFrom B (RelI size ar w) := by
  refine OwnFrom.and (Own.from ?_ _) (ownFrom_below (Nat.le_refl _) hB)
  rintro pre X Y row ⟨⟨h0, h1, h3⟩, a, c, V, h4, hG⟩ hg hrow
  exact ⟨⟨cells_turned h0 hg hrow, cells_turned h1 hg hrow, cells_turned h3 hg hrow⟩, a, c, V, cells_turned h4 hg hrow, (hG.turned hg hrow).full⟩

theorem relI_step (size ar : Nat) (w W w2 w3 : World) (pre : List Nat) (x y : Nat) (a : Option Addr) (c : Nat) (B : Nat) (a2 : Option Addr) (n2 c2 g' c' : Nat) (V : Nat → Value) (hyx : cut x = y) (hB : Below w.heap.size w W)
    (h0 : Boxed W w.heap.size 2 (.int .i64 size)) (h1 : Boxed W (w.heap.size + 1) 2 (.int .i64 ar)) (h3 : RelBox W (w.heap.size + 1 + 1 + 1) (.int .i64 0) (.slice none 0 0)) (h4 : RelBox W (w.heap.size + 1 + 1 + 1 + 1) (.int .i64 ar) (.slice a pre.length c))
    (hG : OwnGridV W (w.heap.size + 5) W.heap.size (.slice a pre.length c) pre.length V (fun i => digs size ar (cut (pre.getD i 0)))) (hbW : Below W.heap.size W w2) (hO2 : OwnRow w2 W.heap.size (.slice a2 n2 c2) (digs size ar y))
    (hG3 : w3.ownsRow (w.heap.size + 5) 29 1 (.slice (some ⟨g', 0, none⟩) (pre.length + 1) c') (pre.length + 1) ((List.range pre.length).map V ++ [.slice a2 n2 c2])) (hR3 : (w2.alloc (.cells #[.slice a2 n2 c2] 29)).grownBy w3 (Value.slice a pre.length c).ownBlock)
    (hB3 : RelBox w3 (w.heap.size + 1 + 1 + 1 + 1) (.int .i64 ar) (.slice a pre.length c)) :
    KeepsFrom B W (w3.setCell ⟨w.heap.size + 1 + 1 + 1 + 1, 1, none⟩ (.slice (some ⟨g', 0, none⟩) (pre.length + 1) c')) ∧ Below w.heap.size W (w3.setCell ⟨w.heap.size + 1 + 1 + 1 + 1, 1, none⟩ (.slice (some ⟨g', 0, none⟩) (pre.length + 1) c')) ∧
      RelI size ar w (pre ++ [x]) (w3.setCell ⟨w.heap.size + 1 + 1 + 1 + 1, 1, none⟩ (.slice (some ⟨g', 0, none⟩) (pre.length + 1) c')) := by
  have hsz : w.heap.size + 5 ≤ W.heap.size := by have := h4.lt; omega
  have hb2 : Below W.heap.size W (w2.alloc (.cells #[.slice a2 n2 c2] 29)) := hbW.alloc hbW.size _
  have hfar : ∀ p, p < w.heap.size + 5 → (Value.slice a pre.length c).ownBlock ≠ some p := fun p hp => hG.far p hp
  have hg := hG.grow hb2 (hO2.below ((Below.refl _ _).alloc (Nat.le_refl _) _)) hsz hG3 hR3
  have hs3 : W.heap.size ≤ w3.heap.size := by have h1 := hR3.size; have h2 := hb2.size; omega
  have hold : ∀ k, k < w.heap.size + 5 → w3.heap[k]? = W.heap[k]? := fun k hk => by
    have hkW : k < W.heap.size := by omega
    exact (hR3.block k (Nat.lt_of_lt_of_le hkW hb2.size) (fun e => hfar k hk e.symm)).trans (hb2.block k hkW)
  have hset : ∀ k, k ≠ w.heap.size + 1 + 1 + 1 + 1 → (w3.setCell ⟨w.heap.size + 1 + 1 + 1 + 1, 1, none⟩ (.slice (some ⟨g', 0, none⟩) (pre.length + 1) c')).heap[k]? = w3.heap[k]? := fun k hk => Below.heap_setCell _ _ _ _ hk
  have hbelow : Below w.heap.size W (w3.setCell ⟨w.heap.size + 1 + 1 + 1 + 1, 1, none⟩ (.slice (some ⟨g', 0, none⟩) (pre.length + 1) c')) :=
    (((hb2.mono (by omega)).grown hR3 (by simp; have := hbW.size; omega) (fun q hq => by have := (hG.outer.lt q hq).1; omega)).setCell (p := ⟨w.heap.size + 1 + 1 + 1 + 1, 1, none⟩) (by show w.heap.size ≤ w.heap.size + 1 + 1 + 1 + 1; omega) _)
  refine ⟨?_, hbelow, ⟨⟨⟨?_, ?_, ?_⟩, some ⟨g', 0, none⟩, c', fun i => if i = pre.length then .slice a2 n2 c2 else V i, ?_, ?_⟩, hB.trans hbelow⟩⟩
  · refine KeepsOthers.from ?_ _
    have k1 : KeepsOthers W (w2.alloc (.cells #[.slice a2 n2 c2] 29)) := ⟨hb2.size, fun k o hk _ => (hb2.block k (Array.getElem?_eq_some_iff.1 hk).1).trans hk⟩
    refine (k1.trans (KeepsOthers.of_grownBy hR3 fun j o ej hj => ?_)).trans (KeepsOthers.setCell _ _ _)
    rcases ((ownsRow_below hG.outer hbW).alloc (.cells #[.slice a2 n2 c2] 29)).2 with ⟨hv, _⟩ | ⟨g, cap, cur, hv, _, hgb, _⟩
    · rw [hv] at ej; simp [Value.ownBlock] at ej
    · rw [hv] at ej
      obtain rfl : g = j := by simpa [Value.ownBlock] using ej
      rw [hgb] at hj; cases hj; rfl
  · unfold Boxed at h0 ⊢; rw [hset _ (by omega), hold _ (by omega)]; exact h0
  · unfold Boxed at h1 ⊢; rw [hset _ (by omega), hold _ (by omega)]; exact h1
  · unfold RelBox at h3 ⊢; rw [hset _ (by omega), hold _ (by omega)]; exact h3
  · have hl : (pre ++ [x]).length = pre.length + 1 := by simp
    rw [hl]
    exact hB3.set1 _
  · have hl : (pre ++ [x]).length = pre.length + 1 := by simp
    rw [hl]
    refine ((hg.same (by simp [World.setCell]) fun g hg1 _ => hset g (by omega)).full).congr fun i hi => ?_
    by_cases hin : i = pre.length
    · subst hin
      simp [hyx]
    · simp [hin, List.getElem?_append_left (show i < pre.length by omega)]

theorem ownGridV_mono {w : World} {B B' E n : Nat} {v : Value} {V : Nat → Value} {f : Nat → List Int} (h : OwnGridV w B E v n V f) (hB : B' ≤ B) : OwnGridV w B' E v n V f :=
  ⟨ownsRow_mono h.outer hB, h.le, h.top, fun i hi => (h.rows i hi).mono hB, h.hi, h.apart⟩

set_option maxRecDepth 100000 in
set_option maxHeartbeats 8000000 in
theorem relOf_in (n : Nat) (hn : 6 ≤ n) (size ar : Nat) (h1 : 1 ≤ size) (h2 : size ≤ 4) (h3 : 1 ≤ ar) (h4 : ar ≤ 4) (S : Nat → Bool) (w : World) (hT : TzTab w) :
    CallsIn Fence.wide n Tryd.prog 32 #[.int .i64 size, .int .i64 ar, bitsV S] w (MadeRel w ar (rowsS size ar S 256)) := by
  have hn1 : 1 ≤ n := by omega
  have hd : bitsV S = .agg #[.int .u64 (word S 0), .int .u64 (word S 1), .int .u64 (word S 2), .int .u64 (word S 3)] := rfl
  rw [hd]
  have hg0 : 0 < w.heap.size := cell_block_lt (hT 0 (by omega))
  refine callsIn_of_wp_marks Tryd.func32 rfl trivial ?_ rfl
  simp only [Tryd.ntmps32, List.size_toArray, List.length_cons, List.length_nil, Nat.reduceAdd, Nat.reduceSub, Array.replicate_succ, Array.replicate_zero, List.push_toArray, List.append_toArray, List.nil_append, List.cons_append]
  gi_wp2_with (refine ⟨trivial, ?_⟩; gi_at_call 46; refine (callsIn_wide.2 (numbers_in S _)).mono ?_; rintro e w' ⟨rfl, rfl⟩)
  obtain ⟨W0, hW0⟩ : ∃ W0, ((((w.alloc (.cells #[.int .i64 size] 2)).alloc (.cells #[.int .i64 ar] 2)).alloc (.cells #[.int .u64 (word S 0), .int .u64 (word S 1), .int .u64 (word S 2), .int .u64 (word S 3)] 52)).alloc (.cells #[.int .i64 0, .slice none 0 0] 27)).alloc (.cells #[.int .i64 ar, .slice none 0 0] 27) = W0 := ⟨_, rfl⟩
  rw [hW0]
  have hsz : W0.heap.size = w.heap.size + 5 := by rw [← hW0]; simp
  have hB0 : Below w.heap.size w W0 := by
    rw [← hW0]
    exact ((((((Below.refl _ _).alloc (Nat.le_refl _) _).alloc (by simp) _).alloc (by simp; omega) _).alloc (by simp; omega) _).alloc (by simp; omega) _)
  have hI0 : RelI size ar w [] W0 := by
    refine ⟨⟨⟨?_, ?_, ?_⟩, none, 0, fun _ => .slice none 0 0, ?_, ?_⟩, hB0⟩
    · rw [← hW0]; exact ((((Boxed.new w 2 (.int .i64 size)).alloc _).alloc _).alloc _).alloc _
    · rw [← hW0]
      have h := (((Boxed.new (w.alloc (.cells #[.int .i64 size] 2)) 2 (.int .i64 ar)).alloc (.cells #[.int .u64 (word S 0), .int .u64 (word S 1), .int .u64 (word S 2), .int .u64 (word S 3)] 52)).alloc (.cells #[.int .i64 0, .slice none 0 0] 27)).alloc (.cells #[.int .i64 ar, .slice none 0 0] 27)
      rwa [World.size_alloc] at h
    · rw [← hW0]
      have h := (RelBox.new (((w.alloc (.cells #[.int .i64 size] 2)).alloc (.cells #[.int .i64 ar] 2)).alloc (.cells #[.int .u64 (word S 0), .int .u64 (word S 1), .int .u64 (word S 2), .int .u64 (word S 3)] 52)) (.int .i64 0) (.slice none 0 0)).alloc (.cells #[.int .i64 ar, .slice none 0 0] 27)
      rwa [World.size_alloc, World.size_alloc, World.size_alloc] at h
    · rw [← hW0]
      have h := RelBox.new ((((w.alloc (.cells #[.int .i64 size] 2)).alloc (.cells #[.int .i64 ar] 2)).alloc (.cells #[.int .u64 (word S 0), .int .u64 (word S 1), .int .u64 (word S 2), .int .u64 (word S 3)] 52)).alloc (.cells #[.int .i64 0, .slice none 0 0] 27)) (.int .i64 ar) (.slice none 0 0)
      rwa [World.size_alloc, World.size_alloc, World.size_alloc, World.size_alloc] at h
    · exact OwnGridV.none _ _ _ _
  have hbits : BitsBox (W0.alloc (.cells (bitsC S).toArray 52)) W0.heap.size S := bits_new W0 S
  have hT0 : TzTab (W0.alloc (.cells (bitsC S).toArray 52)) := (hT.below hB0).below ((Below.refl _ _).alloc (Nat.le_refl _) _)
  have hL : (W0.alloc (.cells (bitsC S).toArray 52)).heap.size = w.heap.size + 6 := by simp [hsz]
  rw [hsz] at hbits
  have hlast := relI_own size ar w (w.heap.size + 5) (by omega)
  obtain ⟨i0, hi, hz0, hz1, hz2⟩ := info_parts info_row
  refine wpIn_rangeFunc_ownG rfl hn1 (gf := 54) (lb := #[.pointer (some ⟨w.heap.size + 5, 0, none⟩)]) (by simp [Act.eval]) trivial (enters_of Tryd.func54 (by kernel_rfl) rfl)
    (numbers_stops (n - 1) (by omega) (w.heap.size + 5) w.heap.size S _ hbits hT0 hg0) belowK_t (belowK_b (by rw [hL]; omega)) (Below.refl _ _) (fun _ => rfl)
    (RelI size ar w) (fun _ _ _ => False) (relI_own size ar w _ (by rw [hL]; omega)) (fun _ _ _ _ _ hs _ _ => hs) (hlast.alloc _ hI0) ?a1 ?assign ?body ?done ?stop
  case assign =>
    intro l x W K hK
    gi_wp2
    exact hK
  case body =>
    rintro l pre x W ⟨⟨⟨b0, b1, b3⟩, a, c, V, b4, hG⟩, hB⟩ hlen
    have c0 := b0.cell
    have c1 := b1.cell
    have d1 := b4.c1
    have f1 := b4.free 1
    have hxl := cut_lt x
    have hmx : Tryd.prog.follows .mixedOrders = true := by kernel_rfl
    have H0 := Lib.hid b0
    have H1 := Lib.hid b1
    have H3 := Lib.hid b3
    have H4 := Lib.hid b4
    have HG := Lib.hid hG
    have HB := Lib.hid hB
    clear b0 b1 b3 b4 hG hB
    generalize hyx : cut x = y at *
    gi_wp2
    -- TREE
    refine wpIn_region_any hmx ?_
    refine wpAnyIn_round rfl (by intro i o ho; exact noDefer_spec (by kernel_rfl) i o ho) _ _ _ _ ?_
    change wpAnyIn _ _ _ _ _ _ _ _ _ (World.drew _)
    refine wpAnyIn_take (i := 4) (v := ?_) rfl rfl (by kernel_rfl) (by kernel_rfl) (by kernel_rfl) (fun _ _ _ h => h) ⟨Or.inl ⟨by rfl, ?_⟩, fun _ => rfl⟩ ?_
    rotate_left
    · intro w; go_simp; try with_reducible rfl
    refine wpAnyIn_take (i := 0) (v := ?_) rfl rfl (by kernel_rfl) (by kernel_rfl) (by kernel_rfl) (fun _ _ _ h => h) ⟨Or.inl ⟨by rfl, ?_⟩, fun _ => rfl⟩ ?_
    rotate_left
    · intro w; go_simp; try with_reducible rfl
    refine wpAnyIn_ready (rs := [1, 2, 3]) (by kernel_rfl) (by simp) ?_
    refine AllReadyIn.cons rfl (fun K hK => ?_) ?_
    · go_simp
      refine hK _ _ ?_; clear hK K
      refine wpAnyIn_ready (rs := [2, 3]) (by kernel_rfl) (by simp) ?_
      refine AllReadyIn.cons rfl (fun K hK => ?_) ?_
      · go_simp
        refine hK _ _ ?_; clear hK K
        refine wpAnyIn_ready (rs := [3]) (by kernel_rfl) (by simp) ?_
        refine AllReadyIn.cons rfl (fun K hK => ?_) ?_
        · go_simp
          refine hK _ _ ?_; clear hK K
          refine wpAnyIn_ready (rs := [5]) (by kernel_rfl) (by simp) ?_
          refine AllReadyIn.cons rfl (fun K hK => ?_) ?_
          · go_simp
            refine ⟨trivial, fun _ => by omega, ?_⟩; refine (tupleOf_in _ (by omega) size ar y h1 h2 h3 h4 hxl _).mono ?_; rintro e w2 ⟨a2, n2, c2, rfl, ho2, hb2⟩; dsimp only; have hbW := Lib.hid (show Below W.heap.size W w2 from ⟨hb2.os, hb2.tape, hb2.output, hb2.size, hb2.block⟩); have HO2 := Lib.hid (show OwnRow w2 W.heap.size (.slice a2 n2 c2) (digs size ar y) from ho2); have e1 := below_cell hbW.out d1; have e1a := below_cell ((Below.refl w2.heap.size w2).alloc (Nat.le_refl _) (.cells #[.slice a2 n2 c2] 29)) e1; have hne : ¬ w.heap.size + 1 + 1 + 1 + 1 = w2.heap.size := (by have g1 := hbW.out.size; have g2 := H4.out.lt; omega); have HC2 := Lib.hid (cell_one_new w2 (.slice a2 n2 c2) 29); clear hb2 ho2
            refine hK _ _ ?_; clear hK K
            refine wpAnyIn_ready (rs := [6]) (by kernel_rfl) (by simp) ?_
            refine AllReadyIn.cons rfl (fun K hK => ?_) ?_
            · go_simp
              refine hK _ _ ?_; clear hK K
              refine wpAnyIn_ready (rs := [7]) (by kernel_rfl) (by simp) ?_
              refine AllReadyIn.cons rfl (fun K hK => ?_) AllReadyIn.nil
              refine appStep_own _ rfl _ _ 25 rfl (w.heap.size + 5) 29 i0 (.slice none 0 0) 1 24 Tryd.underlying25 hi hz0 hz1 hz2 rfl (by decide) (.slice a pre.length c) pre.length _ rfl ((ownsRow_below HG.out.outer hbW.out).alloc _) ⟨w2.heap.size, 0, none⟩ 1 1 [.slice a2 n2 c2] rfl rfl HC2.out (by simp [Value.oneCell']) (by unfold maxLen; omega) (by omega) (by have g1 := hbW.out.size; have g2 := H4.out.lt; simp; omega) ?_; intro v' w3 hown' hgrow _; obtain ⟨g', c', rfl⟩ := ownsRow_succ hown'; have HG3 := Lib.hid hown'; have HR3 := Lib.hid hgrow; have hb3 := ((H4.out.below hbW.out).alloc (.cells #[.slice a2 n2 c2] 29)).grown hgrow (HG.out.far (w.heap.size + 1 + 1 + 1 + 1) (by omega)); have e2 := hb3.c1; have e3 := hb3.free 1; have HB3 := Lib.hid hb3; clear hown' hgrow hb3 e1 e1a
              refine hK _ _ ?_; clear hK K
              refine wpAnyIn_ready (rs := [8]) (by kernel_rfl) (by simp) ?_
              refine AllReadyIn.cons rfl (fun K hK => ?_) AllReadyIn.nil
              go_simp
              refine hK _ _ ?_; clear hK K
              refine wpAnyIn_ready (rs := [9]) (by kernel_rfl) (by simp) ?_
              refine AllReadyIn.cons rfl (fun K hK => ?_) AllReadyIn.nil
              go_simp
              refine hK _ _ ?_; clear hK K
              refine wpAnyIn_done (by kernel_rfl) ?_ _
              gi_wp2
              exact relI_step size ar w W w2 w3 pre x y _ _ _ a2 n2 c2 g' c' V hyx HB.out H0.out H1.out H3.out H4.out HG.out hbW.out HO2.out HG3.out HR3.out HB3.out
            exact AllReadyIn.nil
          exact AllReadyIn.nil
        exact AllReadyIn.nil
      refine AllReadyIn.cons rfl (fun K hK => ?_) ?_
      · go_simp
        refine hK _ _ ?_; clear hK K
        refine wpAnyIn_ready (rs := [2]) (by kernel_rfl) (by simp) ?_
        refine AllReadyIn.cons rfl (fun K hK => ?_) ?_
        · go_simp
          refine hK _ _ ?_; clear hK K
          refine wpAnyIn_ready (rs := [5]) (by kernel_rfl) (by simp) ?_
          refine AllReadyIn.cons rfl (fun K hK => ?_) ?_
          · go_simp
            refine ⟨trivial, fun _ => by omega, ?_⟩; refine (tupleOf_in _ (by omega) size ar y h1 h2 h3 h4 hxl _).mono ?_; rintro e w2 ⟨a2, n2, c2, rfl, ho2, hb2⟩; dsimp only; have hbW := Lib.hid (show Below W.heap.size W w2 from ⟨hb2.os, hb2.tape, hb2.output, hb2.size, hb2.block⟩); have HO2 := Lib.hid (show OwnRow w2 W.heap.size (.slice a2 n2 c2) (digs size ar y) from ho2); have e1 := below_cell hbW.out d1; have e1a := below_cell ((Below.refl w2.heap.size w2).alloc (Nat.le_refl _) (.cells #[.slice a2 n2 c2] 29)) e1; have hne : ¬ w.heap.size + 1 + 1 + 1 + 1 = w2.heap.size := (by have g1 := hbW.out.size; have g2 := H4.out.lt; omega); have HC2 := Lib.hid (cell_one_new w2 (.slice a2 n2 c2) 29); clear hb2 ho2
            refine hK _ _ ?_; clear hK K
            refine wpAnyIn_ready (rs := [6]) (by kernel_rfl) (by simp) ?_
            refine AllReadyIn.cons rfl (fun K hK => ?_) ?_
            · go_simp
              refine hK _ _ ?_; clear hK K
              refine wpAnyIn_ready (rs := [7]) (by kernel_rfl) (by simp) ?_
              refine AllReadyIn.cons rfl (fun K hK => ?_) AllReadyIn.nil
              refine appStep_own _ rfl _ _ 25 rfl (w.heap.size + 5) 29 i0 (.slice none 0 0) 1 24 Tryd.underlying25 hi hz0 hz1 hz2 rfl (by decide) (.slice a pre.length c) pre.length _ rfl ((ownsRow_below HG.out.outer hbW.out).alloc _) ⟨w2.heap.size, 0, none⟩ 1 1 [.slice a2 n2 c2] rfl rfl HC2.out (by simp [Value.oneCell']) (by unfold maxLen; omega) (by omega) (by have g1 := hbW.out.size; have g2 := H4.out.lt; simp; omega) ?_; intro v' w3 hown' hgrow _; obtain ⟨g', c', rfl⟩ := ownsRow_succ hown'; have HG3 := Lib.hid hown'; have HR3 := Lib.hid hgrow; have hb3 := ((H4.out.below hbW.out).alloc (.cells #[.slice a2 n2 c2] 29)).grown hgrow (HG.out.far (w.heap.size + 1 + 1 + 1 + 1) (by omega)); have e2 := hb3.c1; have e3 := hb3.free 1; have HB3 := Lib.hid hb3; clear hown' hgrow hb3 e1 e1a
              refine hK _ _ ?_; clear hK K
              refine wpAnyIn_ready (rs := [8]) (by kernel_rfl) (by simp) ?_
              refine AllReadyIn.cons rfl (fun K hK => ?_) AllReadyIn.nil
              go_simp
              refine hK _ _ ?_; clear hK K
              refine wpAnyIn_ready (rs := [9]) (by kernel_rfl) (by simp) ?_
              refine AllReadyIn.cons rfl (fun K hK => ?_) AllReadyIn.nil
              go_simp
              refine hK _ _ ?_; clear hK K
              refine wpAnyIn_done (by kernel_rfl) ?_ _
              gi_wp2
              exact relI_step size ar w W w2 w3 pre x y _ _ _ a2 n2 c2 g' c' V hyx HB.out H0.out H1.out H3.out H4.out HG.out hbW.out HO2.out HG3.out HR3.out HB3.out
            exact AllReadyIn.nil
          exact AllReadyIn.nil
        exact AllReadyIn.nil
      exact AllReadyIn.nil
    refine AllReadyIn.cons rfl (fun K hK => ?_) ?_
    · go_simp
      refine hK _ _ ?_; clear hK K
      refine wpAnyIn_ready (rs := [1, 3]) (by kernel_rfl) (by simp) ?_
      refine AllReadyIn.cons rfl (fun K hK => ?_) ?_
      · go_simp
        refine hK _ _ ?_; clear hK K
        refine wpAnyIn_ready (rs := [3]) (by kernel_rfl) (by simp) ?_
        refine AllReadyIn.cons rfl (fun K hK => ?_) ?_
        · go_simp
          refine hK _ _ ?_; clear hK K
          refine wpAnyIn_ready (rs := [5]) (by kernel_rfl) (by simp) ?_
          refine AllReadyIn.cons rfl (fun K hK => ?_) ?_
          · go_simp
            refine ⟨trivial, fun _ => by omega, ?_⟩; refine (tupleOf_in _ (by omega) size ar y h1 h2 h3 h4 hxl _).mono ?_; rintro e w2 ⟨a2, n2, c2, rfl, ho2, hb2⟩; dsimp only; have hbW := Lib.hid (show Below W.heap.size W w2 from ⟨hb2.os, hb2.tape, hb2.output, hb2.size, hb2.block⟩); have HO2 := Lib.hid (show OwnRow w2 W.heap.size (.slice a2 n2 c2) (digs size ar y) from ho2); have e1 := below_cell hbW.out d1; have e1a := below_cell ((Below.refl w2.heap.size w2).alloc (Nat.le_refl _) (.cells #[.slice a2 n2 c2] 29)) e1; have hne : ¬ w.heap.size + 1 + 1 + 1 + 1 = w2.heap.size := (by have g1 := hbW.out.size; have g2 := H4.out.lt; omega); have HC2 := Lib.hid (cell_one_new w2 (.slice a2 n2 c2) 29); clear hb2 ho2
            refine hK _ _ ?_; clear hK K
            refine wpAnyIn_ready (rs := [6]) (by kernel_rfl) (by simp) ?_
            refine AllReadyIn.cons rfl (fun K hK => ?_) ?_
            · go_simp
              refine hK _ _ ?_; clear hK K
              refine wpAnyIn_ready (rs := [7]) (by kernel_rfl) (by simp) ?_
              refine AllReadyIn.cons rfl (fun K hK => ?_) AllReadyIn.nil
              refine appStep_own _ rfl _ _ 25 rfl (w.heap.size + 5) 29 i0 (.slice none 0 0) 1 24 Tryd.underlying25 hi hz0 hz1 hz2 rfl (by decide) (.slice a pre.length c) pre.length _ rfl ((ownsRow_below HG.out.outer hbW.out).alloc _) ⟨w2.heap.size, 0, none⟩ 1 1 [.slice a2 n2 c2] rfl rfl HC2.out (by simp [Value.oneCell']) (by unfold maxLen; omega) (by omega) (by have g1 := hbW.out.size; have g2 := H4.out.lt; simp; omega) ?_; intro v' w3 hown' hgrow _; obtain ⟨g', c', rfl⟩ := ownsRow_succ hown'; have HG3 := Lib.hid hown'; have HR3 := Lib.hid hgrow; have hb3 := ((H4.out.below hbW.out).alloc (.cells #[.slice a2 n2 c2] 29)).grown hgrow (HG.out.far (w.heap.size + 1 + 1 + 1 + 1) (by omega)); have e2 := hb3.c1; have e3 := hb3.free 1; have HB3 := Lib.hid hb3; clear hown' hgrow hb3 e1 e1a
              refine hK _ _ ?_; clear hK K
              refine wpAnyIn_ready (rs := [8]) (by kernel_rfl) (by simp) ?_
              refine AllReadyIn.cons rfl (fun K hK => ?_) AllReadyIn.nil
              go_simp
              refine hK _ _ ?_; clear hK K
              refine wpAnyIn_ready (rs := [9]) (by kernel_rfl) (by simp) ?_
              refine AllReadyIn.cons rfl (fun K hK => ?_) AllReadyIn.nil
              go_simp
              refine hK _ _ ?_; clear hK K
              refine wpAnyIn_done (by kernel_rfl) ?_ _
              gi_wp2
              exact relI_step size ar w W w2 w3 pre x y _ _ _ a2 n2 c2 g' c' V hyx HB.out H0.out H1.out H3.out H4.out HG.out hbW.out HO2.out HG3.out HR3.out HB3.out
            exact AllReadyIn.nil
          exact AllReadyIn.nil
        exact AllReadyIn.nil
      refine AllReadyIn.cons rfl (fun K hK => ?_) ?_
      · go_simp
        refine hK _ _ ?_; clear hK K
        refine wpAnyIn_ready (rs := [1, 5]) (by kernel_rfl) (by simp) ?_
        refine AllReadyIn.cons rfl (fun K hK => ?_) ?_
        · go_simp
          refine hK _ _ ?_; clear hK K
          refine wpAnyIn_ready (rs := [5]) (by kernel_rfl) (by simp) ?_
          refine AllReadyIn.cons rfl (fun K hK => ?_) ?_
          · go_simp
            refine ⟨trivial, fun _ => by omega, ?_⟩; refine (tupleOf_in _ (by omega) size ar y h1 h2 h3 h4 hxl _).mono ?_; rintro e w2 ⟨a2, n2, c2, rfl, ho2, hb2⟩; dsimp only; have hbW := Lib.hid (show Below W.heap.size W w2 from ⟨hb2.os, hb2.tape, hb2.output, hb2.size, hb2.block⟩); have HO2 := Lib.hid (show OwnRow w2 W.heap.size (.slice a2 n2 c2) (digs size ar y) from ho2); have e1 := below_cell hbW.out d1; have e1a := below_cell ((Below.refl w2.heap.size w2).alloc (Nat.le_refl _) (.cells #[.slice a2 n2 c2] 29)) e1; have hne : ¬ w.heap.size + 1 + 1 + 1 + 1 = w2.heap.size := (by have g1 := hbW.out.size; have g2 := H4.out.lt; omega); have HC2 := Lib.hid (cell_one_new w2 (.slice a2 n2 c2) 29); clear hb2 ho2
            refine hK _ _ ?_; clear hK K
            refine wpAnyIn_ready (rs := [6]) (by kernel_rfl) (by simp) ?_
            refine AllReadyIn.cons rfl (fun K hK => ?_) ?_
            · go_simp
              refine hK _ _ ?_; clear hK K
              refine wpAnyIn_ready (rs := [7]) (by kernel_rfl) (by simp) ?_
              refine AllReadyIn.cons rfl (fun K hK => ?_) AllReadyIn.nil
              refine appStep_own _ rfl _ _ 25 rfl (w.heap.size + 5) 29 i0 (.slice none 0 0) 1 24 Tryd.underlying25 hi hz0 hz1 hz2 rfl (by decide) (.slice a pre.length c) pre.length _ rfl ((ownsRow_below HG.out.outer hbW.out).alloc _) ⟨w2.heap.size, 0, none⟩ 1 1 [.slice a2 n2 c2] rfl rfl HC2.out (by simp [Value.oneCell']) (by unfold maxLen; omega) (by omega) (by have g1 := hbW.out.size; have g2 := H4.out.lt; simp; omega) ?_; intro v' w3 hown' hgrow _; obtain ⟨g', c', rfl⟩ := ownsRow_succ hown'; have HG3 := Lib.hid hown'; have HR3 := Lib.hid hgrow; have hb3 := ((H4.out.below hbW.out).alloc (.cells #[.slice a2 n2 c2] 29)).grown hgrow (HG.out.far (w.heap.size + 1 + 1 + 1 + 1) (by omega)); have e2 := hb3.c1; have e3 := hb3.free 1; have HB3 := Lib.hid hb3; clear hown' hgrow hb3 e1 e1a
              refine hK _ _ ?_; clear hK K
              refine wpAnyIn_ready (rs := [8]) (by kernel_rfl) (by simp) ?_
              refine AllReadyIn.cons rfl (fun K hK => ?_) AllReadyIn.nil
              go_simp
              refine hK _ _ ?_; clear hK K
              refine wpAnyIn_ready (rs := [9]) (by kernel_rfl) (by simp) ?_
              refine AllReadyIn.cons rfl (fun K hK => ?_) AllReadyIn.nil
              go_simp
              refine hK _ _ ?_; clear hK K
              refine wpAnyIn_done (by kernel_rfl) ?_ _
              gi_wp2
              exact relI_step size ar w W w2 w3 pre x y _ _ _ a2 n2 c2 g' c' V hyx HB.out H0.out H1.out H3.out H4.out HG.out hbW.out HO2.out HG3.out HR3.out HB3.out
            exact AllReadyIn.nil
          exact AllReadyIn.nil
        refine AllReadyIn.cons rfl (fun K hK => ?_) ?_
        · go_simp
          refine ⟨trivial, fun _ => by omega, ?_⟩; refine (tupleOf_in _ (by omega) size ar y h1 h2 h3 h4 hxl _).mono ?_; rintro e w2 ⟨a2, n2, c2, rfl, ho2, hb2⟩; dsimp only; have hbW := Lib.hid (show Below W.heap.size W w2 from ⟨hb2.os, hb2.tape, hb2.output, hb2.size, hb2.block⟩); have HO2 := Lib.hid (show OwnRow w2 W.heap.size (.slice a2 n2 c2) (digs size ar y) from ho2); have e1 := below_cell hbW.out d1; have e1a := below_cell ((Below.refl w2.heap.size w2).alloc (Nat.le_refl _) (.cells #[.slice a2 n2 c2] 29)) e1; have hne : ¬ w.heap.size + 1 + 1 + 1 + 1 = w2.heap.size := (by have g1 := hbW.out.size; have g2 := H4.out.lt; omega); have HC2 := Lib.hid (cell_one_new w2 (.slice a2 n2 c2) 29); clear hb2 ho2
          refine hK _ _ ?_; clear hK K
          refine wpAnyIn_ready (rs := [1, 6]) (by kernel_rfl) (by simp) ?_
          refine AllReadyIn.cons rfl (fun K hK => ?_) ?_
          · go_simp
            refine hK _ _ ?_; clear hK K
            refine wpAnyIn_ready (rs := [6]) (by kernel_rfl) (by simp) ?_
            refine AllReadyIn.cons rfl (fun K hK => ?_) ?_
            · go_simp
              refine hK _ _ ?_; clear hK K
              refine wpAnyIn_ready (rs := [7]) (by kernel_rfl) (by simp) ?_
              refine AllReadyIn.cons rfl (fun K hK => ?_) AllReadyIn.nil
              refine appStep_own _ rfl _ _ 25 rfl (w.heap.size + 5) 29 i0 (.slice none 0 0) 1 24 Tryd.underlying25 hi hz0 hz1 hz2 rfl (by decide) (.slice a pre.length c) pre.length _ rfl ((ownsRow_below HG.out.outer hbW.out).alloc _) ⟨w2.heap.size, 0, none⟩ 1 1 [.slice a2 n2 c2] rfl rfl HC2.out (by simp [Value.oneCell']) (by unfold maxLen; omega) (by omega) (by have g1 := hbW.out.size; have g2 := H4.out.lt; simp; omega) ?_; intro v' w3 hown' hgrow _; obtain ⟨g', c', rfl⟩ := ownsRow_succ hown'; have HG3 := Lib.hid hown'; have HR3 := Lib.hid hgrow; have hb3 := ((H4.out.below hbW.out).alloc (.cells #[.slice a2 n2 c2] 29)).grown hgrow (HG.out.far (w.heap.size + 1 + 1 + 1 + 1) (by omega)); have e2 := hb3.c1; have e3 := hb3.free 1; have HB3 := Lib.hid hb3; clear hown' hgrow hb3 e1 e1a
              refine hK _ _ ?_; clear hK K
              refine wpAnyIn_ready (rs := [8]) (by kernel_rfl) (by simp) ?_
              refine AllReadyIn.cons rfl (fun K hK => ?_) AllReadyIn.nil
              go_simp
              refine hK _ _ ?_; clear hK K
              refine wpAnyIn_ready (rs := [9]) (by kernel_rfl) (by simp) ?_
              refine AllReadyIn.cons rfl (fun K hK => ?_) AllReadyIn.nil
              go_simp
              refine hK _ _ ?_; clear hK K
              refine wpAnyIn_done (by kernel_rfl) ?_ _
              gi_wp2
              exact relI_step size ar w W w2 w3 pre x y _ _ _ a2 n2 c2 g' c' V hyx HB.out H0.out H1.out H3.out H4.out HG.out hbW.out HO2.out HG3.out HR3.out HB3.out
            exact AllReadyIn.nil
          refine AllReadyIn.cons rfl (fun K hK => ?_) ?_
          · go_simp
            refine hK _ _ ?_; clear hK K
            refine wpAnyIn_ready (rs := [1]) (by kernel_rfl) (by simp) ?_
            refine AllReadyIn.cons rfl (fun K hK => ?_) ?_
            · go_simp
              refine hK _ _ ?_; clear hK K
              refine wpAnyIn_ready (rs := [7]) (by kernel_rfl) (by simp) ?_
              refine AllReadyIn.cons rfl (fun K hK => ?_) AllReadyIn.nil
              refine appStep_own _ rfl _ _ 25 rfl (w.heap.size + 5) 29 i0 (.slice none 0 0) 1 24 Tryd.underlying25 hi hz0 hz1 hz2 rfl (by decide) (.slice a pre.length c) pre.length _ rfl ((ownsRow_below HG.out.outer hbW.out).alloc _) ⟨w2.heap.size, 0, none⟩ 1 1 [.slice a2 n2 c2] rfl rfl HC2.out (by simp [Value.oneCell']) (by unfold maxLen; omega) (by omega) (by have g1 := hbW.out.size; have g2 := H4.out.lt; simp; omega) ?_; intro v' w3 hown' hgrow _; obtain ⟨g', c', rfl⟩ := ownsRow_succ hown'; have HG3 := Lib.hid hown'; have HR3 := Lib.hid hgrow; have hb3 := ((H4.out.below hbW.out).alloc (.cells #[.slice a2 n2 c2] 29)).grown hgrow (HG.out.far (w.heap.size + 1 + 1 + 1 + 1) (by omega)); have e2 := hb3.c1; have e3 := hb3.free 1; have HB3 := Lib.hid hb3; clear hown' hgrow hb3 e1 e1a
              refine hK _ _ ?_; clear hK K
              refine wpAnyIn_ready (rs := [8]) (by kernel_rfl) (by simp) ?_
              refine AllReadyIn.cons rfl (fun K hK => ?_) AllReadyIn.nil
              go_simp
              refine hK _ _ ?_; clear hK K
              refine wpAnyIn_ready (rs := [9]) (by kernel_rfl) (by simp) ?_
              refine AllReadyIn.cons rfl (fun K hK => ?_) AllReadyIn.nil
              go_simp
              refine hK _ _ ?_; clear hK K
              refine wpAnyIn_done (by kernel_rfl) ?_ _
              gi_wp2
              exact relI_step size ar w W w2 w3 pre x y _ _ _ a2 n2 c2 g' c' V hyx HB.out H0.out H1.out H3.out H4.out HG.out hbW.out HO2.out HG3.out HR3.out HB3.out
            exact AllReadyIn.nil
          exact AllReadyIn.nil
        exact AllReadyIn.nil
      exact AllReadyIn.nil
    refine AllReadyIn.cons rfl (fun K hK => ?_) ?_
    · go_simp
      refine hK _ _ ?_; clear hK K
      refine wpAnyIn_ready (rs := [1, 2]) (by kernel_rfl) (by simp) ?_
      refine AllReadyIn.cons rfl (fun K hK => ?_) ?_
      · go_simp
        refine hK _ _ ?_; clear hK K
        refine wpAnyIn_ready (rs := [2]) (by kernel_rfl) (by simp) ?_
        refine AllReadyIn.cons rfl (fun K hK => ?_) ?_
        · go_simp
          refine hK _ _ ?_; clear hK K
          refine wpAnyIn_ready (rs := [5]) (by kernel_rfl) (by simp) ?_
          refine AllReadyIn.cons rfl (fun K hK => ?_) ?_
          · go_simp
            refine ⟨trivial, fun _ => by omega, ?_⟩; refine (tupleOf_in _ (by omega) size ar y h1 h2 h3 h4 hxl _).mono ?_; rintro e w2 ⟨a2, n2, c2, rfl, ho2, hb2⟩; dsimp only; have hbW := Lib.hid (show Below W.heap.size W w2 from ⟨hb2.os, hb2.tape, hb2.output, hb2.size, hb2.block⟩); have HO2 := Lib.hid (show OwnRow w2 W.heap.size (.slice a2 n2 c2) (digs size ar y) from ho2); have e1 := below_cell hbW.out d1; have e1a := below_cell ((Below.refl w2.heap.size w2).alloc (Nat.le_refl _) (.cells #[.slice a2 n2 c2] 29)) e1; have hne : ¬ w.heap.size + 1 + 1 + 1 + 1 = w2.heap.size := (by have g1 := hbW.out.size; have g2 := H4.out.lt; omega); have HC2 := Lib.hid (cell_one_new w2 (.slice a2 n2 c2) 29); clear hb2 ho2
            refine hK _ _ ?_; clear hK K
            refine wpAnyIn_ready (rs := [6]) (by kernel_rfl) (by simp) ?_
            refine AllReadyIn.cons rfl (fun K hK => ?_) ?_
            · go_simp
              refine hK _ _ ?_; clear hK K
              refine wpAnyIn_ready (rs := [7]) (by kernel_rfl) (by simp) ?_
              refine AllReadyIn.cons rfl (fun K hK => ?_) AllReadyIn.nil
              refine appStep_own _ rfl _ _ 25 rfl (w.heap.size + 5) 29 i0 (.slice none 0 0) 1 24 Tryd.underlying25 hi hz0 hz1 hz2 rfl (by decide) (.slice a pre.length c) pre.length _ rfl ((ownsRow_below HG.out.outer hbW.out).alloc _) ⟨w2.heap.size, 0, none⟩ 1 1 [.slice a2 n2 c2] rfl rfl HC2.out (by simp [Value.oneCell']) (by unfold maxLen; omega) (by omega) (by have g1 := hbW.out.size; have g2 := H4.out.lt; simp; omega) ?_; intro v' w3 hown' hgrow _; obtain ⟨g', c', rfl⟩ := ownsRow_succ hown'; have HG3 := Lib.hid hown'; have HR3 := Lib.hid hgrow; have hb3 := ((H4.out.below hbW.out).alloc (.cells #[.slice a2 n2 c2] 29)).grown hgrow (HG.out.far (w.heap.size + 1 + 1 + 1 + 1) (by omega)); have e2 := hb3.c1; have e3 := hb3.free 1; have HB3 := Lib.hid hb3; clear hown' hgrow hb3 e1 e1a
              refine hK _ _ ?_; clear hK K
              refine wpAnyIn_ready (rs := [8]) (by kernel_rfl) (by simp) ?_
              refine AllReadyIn.cons rfl (fun K hK => ?_) AllReadyIn.nil
              go_simp
              refine hK _ _ ?_; clear hK K
              refine wpAnyIn_ready (rs := [9]) (by kernel_rfl) (by simp) ?_
              refine AllReadyIn.cons rfl (fun K hK => ?_) AllReadyIn.nil
              go_simp
              refine hK _ _ ?_; clear hK K
              refine wpAnyIn_done (by kernel_rfl) ?_ _
              gi_wp2
              exact relI_step size ar w W w2 w3 pre x y _ _ _ a2 n2 c2 g' c' V hyx HB.out H0.out H1.out H3.out H4.out HG.out hbW.out HO2.out HG3.out HR3.out HB3.out
            exact AllReadyIn.nil
          exact AllReadyIn.nil
        exact AllReadyIn.nil
      refine AllReadyIn.cons rfl (fun K hK => ?_) ?_
      · go_simp
        refine hK _ _ ?_; clear hK K
        refine wpAnyIn_ready (rs := [1, 5]) (by kernel_rfl) (by simp) ?_
        refine AllReadyIn.cons rfl (fun K hK => ?_) ?_
        · go_simp
          refine hK _ _ ?_; clear hK K
          refine wpAnyIn_ready (rs := [5]) (by kernel_rfl) (by simp) ?_
          refine AllReadyIn.cons rfl (fun K hK => ?_) ?_
          · go_simp
            refine ⟨trivial, fun _ => by omega, ?_⟩; refine (tupleOf_in _ (by omega) size ar y h1 h2 h3 h4 hxl _).mono ?_; rintro e w2 ⟨a2, n2, c2, rfl, ho2, hb2⟩; dsimp only; have hbW := Lib.hid (show Below W.heap.size W w2 from ⟨hb2.os, hb2.tape, hb2.output, hb2.size, hb2.block⟩); have HO2 := Lib.hid (show OwnRow w2 W.heap.size (.slice a2 n2 c2) (digs size ar y) from ho2); have e1 := below_cell hbW.out d1; have e1a := below_cell ((Below.refl w2.heap.size w2).alloc (Nat.le_refl _) (.cells #[.slice a2 n2 c2] 29)) e1; have hne : ¬ w.heap.size + 1 + 1 + 1 + 1 = w2.heap.size := (by have g1 := hbW.out.size; have g2 := H4.out.lt; omega); have HC2 := Lib.hid (cell_one_new w2 (.slice a2 n2 c2) 29); clear hb2 ho2
            refine hK _ _ ?_; clear hK K
            refine wpAnyIn_ready (rs := [6]) (by kernel_rfl) (by simp) ?_
            refine AllReadyIn.cons rfl (fun K hK => ?_) ?_
            · go_simp
              refine hK _ _ ?_; clear hK K
              refine wpAnyIn_ready (rs := [7]) (by kernel_rfl) (by simp) ?_
              refine AllReadyIn.cons rfl (fun K hK => ?_) AllReadyIn.nil
              refine appStep_own _ rfl _ _ 25 rfl (w.heap.size + 5) 29 i0 (.slice none 0 0) 1 24 Tryd.underlying25 hi hz0 hz1 hz2 rfl (by decide) (.slice a pre.length c) pre.length _ rfl ((ownsRow_below HG.out.outer hbW.out).alloc _) ⟨w2.heap.size, 0, none⟩ 1 1 [.slice a2 n2 c2] rfl rfl HC2.out (by simp [Value.oneCell']) (by unfold maxLen; omega) (by omega) (by have g1 := hbW.out.size; have g2 := H4.out.lt; simp; omega) ?_; intro v' w3 hown' hgrow _; obtain ⟨g', c', rfl⟩ := ownsRow_succ hown'; have HG3 := Lib.hid hown'; have HR3 := Lib.hid hgrow; have hb3 := ((H4.out.below hbW.out).alloc (.cells #[.slice a2 n2 c2] 29)).grown hgrow (HG.out.far (w.heap.size + 1 + 1 + 1 + 1) (by omega)); have e2 := hb3.c1; have e3 := hb3.free 1; have HB3 := Lib.hid hb3; clear hown' hgrow hb3 e1 e1a
              refine hK _ _ ?_; clear hK K
              refine wpAnyIn_ready (rs := [8]) (by kernel_rfl) (by simp) ?_
              refine AllReadyIn.cons rfl (fun K hK => ?_) AllReadyIn.nil
              go_simp
              refine hK _ _ ?_; clear hK K
              refine wpAnyIn_ready (rs := [9]) (by kernel_rfl) (by simp) ?_
              refine AllReadyIn.cons rfl (fun K hK => ?_) AllReadyIn.nil
              go_simp
              refine hK _ _ ?_; clear hK K
              refine wpAnyIn_done (by kernel_rfl) ?_ _
              gi_wp2
              exact relI_step size ar w W w2 w3 pre x y _ _ _ a2 n2 c2 g' c' V hyx HB.out H0.out H1.out H3.out H4.out HG.out hbW.out HO2.out HG3.out HR3.out HB3.out
            exact AllReadyIn.nil
          exact AllReadyIn.nil
        refine AllReadyIn.cons rfl (fun K hK => ?_) ?_
        · go_simp
          refine ⟨trivial, fun _ => by omega, ?_⟩; refine (tupleOf_in _ (by omega) size ar y h1 h2 h3 h4 hxl _).mono ?_; rintro e w2 ⟨a2, n2, c2, rfl, ho2, hb2⟩; dsimp only; have hbW := Lib.hid (show Below W.heap.size W w2 from ⟨hb2.os, hb2.tape, hb2.output, hb2.size, hb2.block⟩); have HO2 := Lib.hid (show OwnRow w2 W.heap.size (.slice a2 n2 c2) (digs size ar y) from ho2); have e1 := below_cell hbW.out d1; have e1a := below_cell ((Below.refl w2.heap.size w2).alloc (Nat.le_refl _) (.cells #[.slice a2 n2 c2] 29)) e1; have hne : ¬ w.heap.size + 1 + 1 + 1 + 1 = w2.heap.size := (by have g1 := hbW.out.size; have g2 := H4.out.lt; omega); have HC2 := Lib.hid (cell_one_new w2 (.slice a2 n2 c2) 29); clear hb2 ho2
          refine hK _ _ ?_; clear hK K
          refine wpAnyIn_ready (rs := [1, 6]) (by kernel_rfl) (by simp) ?_
          refine AllReadyIn.cons rfl (fun K hK => ?_) ?_
          · go_simp
            refine hK _ _ ?_; clear hK K
            refine wpAnyIn_ready (rs := [6]) (by kernel_rfl) (by simp) ?_
            refine AllReadyIn.cons rfl (fun K hK => ?_) ?_
            · go_simp
              refine hK _ _ ?_; clear hK K
              refine wpAnyIn_ready (rs := [7]) (by kernel_rfl) (by simp) ?_
              refine AllReadyIn.cons rfl (fun K hK => ?_) AllReadyIn.nil
              refine appStep_own _ rfl _ _ 25 rfl (w.heap.size + 5) 29 i0 (.slice none 0 0) 1 24 Tryd.underlying25 hi hz0 hz1 hz2 rfl (by decide) (.slice a pre.length c) pre.length _ rfl ((ownsRow_below HG.out.outer hbW.out).alloc _) ⟨w2.heap.size, 0, none⟩ 1 1 [.slice a2 n2 c2] rfl rfl HC2.out (by simp [Value.oneCell']) (by unfold maxLen; omega) (by omega) (by have g1 := hbW.out.size; have g2 := H4.out.lt; simp; omega) ?_; intro v' w3 hown' hgrow _; obtain ⟨g', c', rfl⟩ := ownsRow_succ hown'; have HG3 := Lib.hid hown'; have HR3 := Lib.hid hgrow; have hb3 := ((H4.out.below hbW.out).alloc (.cells #[.slice a2 n2 c2] 29)).grown hgrow (HG.out.far (w.heap.size + 1 + 1 + 1 + 1) (by omega)); have e2 := hb3.c1; have e3 := hb3.free 1; have HB3 := Lib.hid hb3; clear hown' hgrow hb3 e1 e1a
              refine hK _ _ ?_; clear hK K
              refine wpAnyIn_ready (rs := [8]) (by kernel_rfl) (by simp) ?_
              refine AllReadyIn.cons rfl (fun K hK => ?_) AllReadyIn.nil
              go_simp
              refine hK _ _ ?_; clear hK K
              refine wpAnyIn_ready (rs := [9]) (by kernel_rfl) (by simp) ?_
              refine AllReadyIn.cons rfl (fun K hK => ?_) AllReadyIn.nil
              go_simp
              refine hK _ _ ?_; clear hK K
              refine wpAnyIn_done (by kernel_rfl) ?_ _
              gi_wp2
              exact relI_step size ar w W w2 w3 pre x y _ _ _ a2 n2 c2 g' c' V hyx HB.out H0.out H1.out H3.out H4.out HG.out hbW.out HO2.out HG3.out HR3.out HB3.out
            exact AllReadyIn.nil
          refine AllReadyIn.cons rfl (fun K hK => ?_) ?_
          · go_simp
            refine hK _ _ ?_; clear hK K
            refine wpAnyIn_ready (rs := [1]) (by kernel_rfl) (by simp) ?_
            refine AllReadyIn.cons rfl (fun K hK => ?_) ?_
            · go_simp
              refine hK _ _ ?_; clear hK K
              refine wpAnyIn_ready (rs := [7]) (by kernel_rfl) (by simp) ?_
              refine AllReadyIn.cons rfl (fun K hK => ?_) AllReadyIn.nil
              refine appStep_own _ rfl _ _ 25 rfl (w.heap.size + 5) 29 i0 (.slice none 0 0) 1 24 Tryd.underlying25 hi hz0 hz1 hz2 rfl (by decide) (.slice a pre.length c) pre.length _ rfl ((ownsRow_below HG.out.outer hbW.out).alloc _) ⟨w2.heap.size, 0, none⟩ 1 1 [.slice a2 n2 c2] rfl rfl HC2.out (by simp [Value.oneCell']) (by unfold maxLen; omega) (by omega) (by have g1 := hbW.out.size; have g2 := H4.out.lt; simp; omega) ?_; intro v' w3 hown' hgrow _; obtain ⟨g', c', rfl⟩ := ownsRow_succ hown'; have HG3 := Lib.hid hown'; have HR3 := Lib.hid hgrow; have hb3 := ((H4.out.below hbW.out).alloc (.cells #[.slice a2 n2 c2] 29)).grown hgrow (HG.out.far (w.heap.size + 1 + 1 + 1 + 1) (by omega)); have e2 := hb3.c1; have e3 := hb3.free 1; have HB3 := Lib.hid hb3; clear hown' hgrow hb3 e1 e1a
              refine hK _ _ ?_; clear hK K
              refine wpAnyIn_ready (rs := [8]) (by kernel_rfl) (by simp) ?_
              refine AllReadyIn.cons rfl (fun K hK => ?_) AllReadyIn.nil
              go_simp
              refine hK _ _ ?_; clear hK K
              refine wpAnyIn_ready (rs := [9]) (by kernel_rfl) (by simp) ?_
              refine AllReadyIn.cons rfl (fun K hK => ?_) AllReadyIn.nil
              go_simp
              refine hK _ _ ?_; clear hK K
              refine wpAnyIn_done (by kernel_rfl) ?_ _
              gi_wp2
              exact relI_step size ar w W w2 w3 pre x y _ _ _ a2 n2 c2 g' c' V hyx HB.out H0.out H1.out H3.out H4.out HG.out hbW.out HO2.out HG3.out HR3.out HB3.out
            exact AllReadyIn.nil
          exact AllReadyIn.nil
        exact AllReadyIn.nil
      exact AllReadyIn.nil
    exact AllReadyIn.nil
    -- END TREE
  case done =>
    rintro D xs W hD rfl ⟨⟨⟨-, -, b3⟩, a, c, V, b4, hG⟩, hB⟩ hK
    have c0 := b4.c0
    have c1 := b4.c1
    have d0 := b3.c0
    have d1 := b3.c1
    have f0 := b3.free 0
    have f1 := b3.free 1
    have HG := Lib.hid hG
    have HB := Lib.hid hB
    have H3 := Lib.hid b3
    have HK := Lib.hid hK
    clear hG hB b3 b4 hK
    gi_wp2
    rw [hL] at hD
    have hsz2 : w.heap.size + 5 ≤ W.heap.size := by have := HG.out.outer; have h := H3.out.lt; have h2 := (Array.getElem?_eq_some_iff.1 HK.out).1; omega
    have hK2 : ((W.setCell ⟨w.heap.size + 1 + 1 + 1, 0, none⟩ (.int .i64 ar)).setCell ⟨w.heap.size + 1 + 1 + 1, 1, none⟩ (.slice a (memb S 256).length c)).heap[D]? = some (.deferred (some [])) := by
      rw [Below.heap_setCell _ _ _ _ (by show D ≠ w.heap.size + 1 + 1 + 1; omega), Below.heap_setCell _ _ _ _ (by show D ≠ w.heap.size + 1 + 1 + 1; omega)]
      exact HK.out
    have hR3 := (H3.out.set0 (.int .i64 ar)).set1 (.slice a (memb S 256).length c)
    have hG2 : OwnGridV ((W.setCell ⟨w.heap.size + 1 + 1 + 1, 0, none⟩ (.int .i64 ar)).setCell ⟨w.heap.size + 1 + 1 + 1, 1, none⟩ (.slice a (memb S 256).length c)) (w.heap.size + 5) W.heap.size (.slice a (memb S 256).length c) (memb S 256).length V (fun i => digs size ar (cut ((memb S 256).getD i 0))) :=
      HG.out.same (by simp [World.setCell]) fun g hg _ => (Below.heap_setCell _ _ _ _ (by show g ≠ w.heap.size + 1 + 1 + 1; omega)).trans (Below.heap_setCell _ _ _ _ (by show g ≠ w.heap.size + 1 + 1 + 1; omega))
    have hB2 : Below w.heap.size w ((W.setCell ⟨w.heap.size + 1 + 1 + 1, 0, none⟩ (.int .i64 ar)).setCell ⟨w.heap.size + 1 + 1 + 1, 1, none⟩ (.slice a (memb S 256).length c)) := (HB.out.setCell (by show w.heap.size ≤ w.heap.size + 1 + 1 + 1; omega) _).setCell (by show w.heap.size ≤ w.heap.size + 1 + 1 + 1; omega) _
    generalize (W.setCell ⟨w.heap.size + 1 + 1 + 1, 0, none⟩ (.int .i64 ar)).setCell ⟨w.heap.size + 1 + 1 + 1, 1, none⟩ (.slice a (memb S 256).length c) = W2 at *
    have hR4 : RelBox (W2.putObj D (.deferred none)) (w.heap.size + 1 + 1 + 1) (.int .i64 ar) (.slice a (memb S 256).length c) := hR3.same (World.putObj_heap_other (fun e => by omega))
    have e0 := hR4.c0
    have e1 := hR4.c1
    refine ⟨by simp, .inl ⟨_, _, rfl, run_takeDeferred hK2, ?_⟩⟩
    refine ⟨.agg #[.int .i64 ar, .slice a (memb S 256).length c], by simp [results, Tryd.results32, go_sem, e0, e1], a, _, c, rfl, ⟨V, ?_⟩, hB2.trans (belowK_b (w := w) (Nat.le_refl _) W2 D _ _ (by omega) hK2 rfl rfl)⟩
    have hG3 : OwnGridV (W2.putObj D (.deferred none)) (w.heap.size + 5) W.heap.size (.slice a (memb S 256).length c) (memb S 256).length V (fun i => digs size ar (cut ((memb S 256).getD i 0))) :=
      ⟨ownsRow_putObj hG2.outer _ hK2 rfl, by have := hG2.le; simpa [World.putObj] using this, hG2.top, fun i hi => ownsRow_putObj (hG2.rows i hi) _ hK2 rfl, hG2.hi, hG2.apart⟩
    rw [rowsS_len]
    refine (ownGridV_mono hG3 (by omega)).full.congr fun i hi => ?_
    rw [rowN_at _ _ (by rw [rowsS_len]; exact hi)]
    simp only [rowsS, List.getElem_map]
    have hge : (memb S 256).getD i 0 = (memb S 256)[i] := by simp [List.getD, hi]
    rw [hge, cut_of ((mem_memb S 256 _).1 (List.getElem_mem hi)).1]
  case stop =>
    rintro D c pre W _ _ h _
    exact h.elim

theorem relOf (size ar : Nat) (h1 : 1 ≤ size) (h2 : size ≤ 4) (h3 : 1 ≤ ar) (h4 : ar ≤ 4) (S : Nat → Bool) (w : World) (hT : TzTab w) :
    Calls Tryd.prog 32 #[.int .i64 size, .int .i64 ar, bitsV S] w (MadeRel w ar (rowsS size ar S 256)) :=
  (callsIn_wide (n := 6)).1 (relOf_in 6 (Nat.le_refl _) size ar h1 h2 h3 h4 S w hT)

end Go.Proofs.YtjkbffoaenhhgaaDoor
