/-
  The relation of a set of numbers: relOf of the program.
-/
import Derived.Test.YtoojgaaggdnpiaaTupleOf
namespace Go.Proofs.Ytoojgaaggdnpiaa
open Go.RowKit
attribute [local go_sem] Oper.semAt_some

/-- append as one step of a region that draws, inside a fence. -/
theorem appStep_own {F : Fence} {n : Nat} {P : Program} {ops : Array Oper} {E : Prop} (w : World) {o : Oper} {a : Act} {K : Act → World → Prop} {Q : Exit → Act → World → Prop} (hg : o.guard = none)
    (s x : Operand) (t : TypeId) (hop : o.op = Op.call { callee := Callee.builtin Builtin.append, args := #[s, x], argTypes := #[t, t] })
    (base : Nat) (e : TypeId) (i : TypeInfo) (z : Value) (size bytes : Nat) (h1 : P.underlying t = some (.slice e)) (h2 : P.info? e = some i) (h3 : i.zero = some z) (h4 : i.size = size) (h5 : i.bytes = bytes) (h6 : z.cells.size = size) (h7 : 0 < size)
    (v : Value) (k : Nat) (xs : List Value) (hs : a.eval s = v) (hown : w.ownsRow base e size v k xs) (ad : Addr) (m c : Nat) (news : List Value) (hx : a.eval x = .slice (some ad) m c) (hn : news.length = m * size)
    (hc : ∀ j u, news[j]? = some u → w.cell? (ad.add j) = some u) (h1c : ∀ u ∈ news, u.oneCell' = true) (b1 : k + m ≤ maxLen) (b2 : (k + m) * bytes ≤ 140737488355328) (b3 : base ≤ w.heap.size)
    (hK : ∀ v' w', w'.ownsRow base e size v' (k + m) (xs ++ news) → w.grownBy w' v.ownBlock → (v' = .slice none 0 0 ↔ v = .slice none 0 0 ∧ m = 0) → K (a.put o.dst v') w') :
    if Region.wanted o (yielded ops a.tmps) = true then Oper.wpIn F n P o a w K Q else E := by
  rw [if_pos (by simp [Region.wanted, hg])]
  obtain ⟨v', w', hrun, r1, r2, r3⟩ := run_append_own (P := P) w base t o.type e i z size bytes h1 h2 h3 h4 h5 h6 h7 v k xs hown ad m c news hn hc h1c b1 b2 b3
  unfold Oper.wpIn
  refine ⟨?_, ?_⟩
  · simp [Oper.about, hop, resolve, Target.leads, Sem.run_pure]
  · rw [Oper.semAt_plain F _ _ (by rw [hop]; intro c hc'; cases hc')]
    simp [execOp, hop, resolve, invoke, builtin, hs, hx, hrun, Result.andThen]
    exact hK v' w' r1 r2 r3

/-- A region without a defer statement goes in a round as it goes elsewhere. -/
theorem wpIn_round {F : Fence} {l n : Nat} {P : Program} {o : Oper} {a : Act} {w : World} {K : Act → World → Prop} {Q : Exit → Act → World → Prop} (hd : ∀ c, o.op ≠ .defer c) (h : Oper.wpIn F n P o a w K Q) : Oper.wpIn (F.inRound l) n P o a w K Q := by
  unfold Oper.wpIn at *
  refine ⟨h.1, ?_⟩
  have h2 := h.2
  rw [Oper.semAt_plain _ _ _ hd] at h2 ⊢
  exact h2
theorem wpAnyIn_round {F : Fence} {l n : Nat} {P : Program} {md : Region.Mode} {ops : Array Oper} {Q : Exit → Act → World → Prop} (_hro : F.round = none) (hnd : ∀ (i : Nat) (o : Oper), ops[i]? = some o → ∀ c, o.op ≠ .defer c) :
    ∀ (fuel : Nat) (listed : Array Bool) (a : Act) (w : World), wpAnyIn F n P md ops Q fuel listed a w → wpAnyIn (F.inRound l) n P md ops Q fuel listed a w := by
  intro fuel
  induction fuel with
  | zero => intro listed a w h; exact h
  | succ fuel ih =>
    intro listed a w h
    refine ⟨h.1, fun i hi => ?_⟩
    have h2 := wpOpIn_mono (fun a w => ih (listed.setIfInBounds i true) a w) (h.2 i hi)
    unfold wpOpIn at h2 ⊢
    cases ho : ops[i]? with
    | none => simpa [ho] using h2
    | some o =>
      simp only [ho] at h2 ⊢
      by_cases hw : Region.wanted o (yielded ops a.tmps) = true
      · simp only [hw, if_true] at h2 ⊢
        exact wpIn_round (hnd i o ho) h2
      · simp only [hw] at h2 ⊢
        exact h2
def noDefer (ops : Array Oper) : Bool := ops.all fun o => match o.op with | .defer .. => false | _ => true
theorem noDefer_spec {ops : Array Oper} (h : noDefer ops = true) (i : Nat) (o : Oper) (ho : ops[i]? = some o) (c : Call) : o.op ≠ .defer c := by
  intro he
  obtain ⟨hi, rfl⟩ := Array.getElem?_eq_some_iff.1 ho
  have := Array.all_eq_true.1 h i hi
  rw [he] at this
  simp at this

/-- What a loop over the numbers of a set keeps: the rows of those that have come. -/
def RelI (size ar : Nat) (w : World) (pre : List Nat) (W : World) : Prop :=
  ((Boxed W w.heap.size 2 (.int .i64 size) ∧ Boxed W (w.heap.size + 1) 2 (.int .i64 ar) ∧ RelBox W (w.heap.size + 1 + 1 + 1) (.int .i64 0) (.slice none 0 0)) ∧
    ∃ (a : Option Addr) (c : Nat) (V : Nat → Value), RelBox W (w.heap.size + 1 + 1 + 1 + 1) (.int .i64 ar) (.slice a pre.length c) ∧ OwnGridV W (w.heap.size + 5) W.heap.size (.slice a pre.length c) pre.length V (fun i => digs size ar (cut (pre.getD i 0)))) ∧ Below w.heap.size w W

theorem ownsRow_turned {X Y : World} {row : Option Nat} {B e s n : Nat} {v : Value} {xs : List Value} (hr : X.ownsRow B e s v n xs) (hg : X.grownBy Y row) (hrow : ∀ r, row = some r → ∃ o : Obj, X.heap[r]? = some o ∧ o.isCells = false) : Y.ownsRow B e s v n xs := by
  refine hr.kept hg ?_
  rcases hr.2 with ⟨rfl, _⟩ | ⟨g, cap, cur, rfl, _, hgb, _⟩
  · exact .inl rfl
  · refine .inr fun e' => ?_
    obtain ⟨o, ho, hc⟩ := hrow g (by simpa [Value.ownBlock] using e'.symm)
    rw [hgb] at ho; cases ho; cases hc
theorem OwnGridV.turned {X Y : World} {row : Option Nat} {B E n : Nat} {v : Value} {V : Nat → Value} {f : Nat → List Int} (h : OwnGridV X B E v n V f) (hg : X.grownBy Y row) (hrow : ∀ r, row = some r → ∃ o : Obj, X.heap[r]? = some o ∧ o.isCells = false) : OwnGridV Y B E v n V f :=
  ⟨ownsRow_turned h.outer hg hrow, Nat.le_trans h.le hg.size, h.top, fun i hi => ownsRow_turned (h.rows i hi) hg hrow, h.hi, h.apart⟩
theorem cells_turned {X Y : World} {row : Option Nat} {B : Nat} {cs : Array Value} {t : TypeId} {z : Nat × Nat} (h : X.heap[B]? = some (.cells cs t z)) (hg : X.grownBy Y row) (hrow : ∀ r, row = some r → ∃ o : Obj, X.heap[r]? = some o ∧ o.isCells = false) : Y.heap[B]? = some (.cells cs t z) := by
  refine (hg.block B (Array.getElem?_eq_some_iff.1 h).1 fun e => ?_).trans h
  obtain ⟨o, ho, hc⟩ := hrow B e.symm
  rw [h] at ho; cases ho; cases hc

theorem relI_own (size ar : Nat) (w : World) (B : Nat) (hB : w.heap.size ≤ B) : OwnFrom B (RelI size ar w) := by
  refine OwnFrom.and (Own.from ?_ _) (ownFrom_below (Nat.le_refl _) hB)
  rintro pre X Y row ⟨⟨h0, h1, h3⟩, a, c, V, h4, hG⟩ hg hrow
  exact ⟨⟨cells_turned h0 hg hrow, cells_turned h1 hg hrow, cells_turned h3 hg hrow⟩, a, c, V, cells_turned h4 hg hrow, (hG.turned hg hrow).full⟩

theorem relI_step (size ar : Nat) (w W w2 w3 : World) (pre : List Nat) (x y : Nat) (a : Option Addr) (c : Nat) (B : Nat) (a2 : Option Addr) (n2 c2 g' c' : Nat) (V : Nat → Value) (hyx : cut x = y) (hB : Below w.heap.size w W)
    (h0 : Boxed W w.heap.size 2 (.int .i64 size)) (h1 : Boxed W (w.heap.size + 1) 2 (.int .i64 ar)) (h3 : RelBox W (w.heap.size + 1 + 1 + 1) (.int .i64 0) (.slice none 0 0)) (h4 : RelBox W (w.heap.size + 1 + 1 + 1 + 1) (.int .i64 ar) (.slice a pre.length c))
    (hG : OwnGridV W (w.heap.size + 5) W.heap.size (.slice a pre.length c) pre.length V (fun i => digs size ar (cut (pre.getD i 0)))) (hbW : Below W.heap.size W w2) (hO2 : OwnRow w2 W.heap.size (.slice a2 n2 c2) (digs size ar y))
    (hG3 : w3.ownsRow (w.heap.size + 5) 22 1 (.slice (some ⟨g', 0, none⟩) (pre.length + 1) c') (pre.length + 1) ((List.range pre.length).map V ++ [.slice a2 n2 c2])) (hR3 : (w2.alloc (.cells #[.slice a2 n2 c2] 22)).grownBy w3 (Value.slice a pre.length c).ownBlock)
    (hB3 : RelBox w3 (w.heap.size + 1 + 1 + 1 + 1) (.int .i64 ar) (.slice a pre.length c)) :
    KeepsFrom B W (w3.setCell ⟨w.heap.size + 1 + 1 + 1 + 1, 1, none⟩ (.slice (some ⟨g', 0, none⟩) (pre.length + 1) c')) ∧ Below w.heap.size W (w3.setCell ⟨w.heap.size + 1 + 1 + 1 + 1, 1, none⟩ (.slice (some ⟨g', 0, none⟩) (pre.length + 1) c')) ∧
      RelI size ar w (pre ++ [x]) (w3.setCell ⟨w.heap.size + 1 + 1 + 1 + 1, 1, none⟩ (.slice (some ⟨g', 0, none⟩) (pre.length + 1) c')) := by
  have hsz : w.heap.size + 5 ≤ W.heap.size := by have := h4.lt; omega
  have hb2 : Below W.heap.size W (w2.alloc (.cells #[.slice a2 n2 c2] 22)) := hbW.alloc hbW.size _
  have hfar : ∀ p, p < w.heap.size + 5 → (Value.slice a pre.length c).ownBlock ≠ some p := fun p hp => hG.far p hp
  have hg := hG.grow hb2 (hO2.below ((Below.refl _ _).alloc (Nat.le_refl _) _)) hsz hG3 hR3
  have hs3 : W.heap.size ≤ w3.heap.size := by have h1 := hR3.size; have h2 := hb2.size; omega
  have hold : ∀ k, k < w.heap.size + 5 → w3.heap[k]? = W.heap[k]? := fun k hk => by
    have hkW : k < W.heap.size := by omega
    exact (hR3.block k (Nat.lt_of_lt_of_le hkW hb2.size) (fun e => hfar k hk e.symm)).trans (hb2.block k hkW)
  have hset : ∀ k, k ≠ w.heap.size + 1 + 1 + 1 + 1 → (w3.setCell ⟨w.heap.size + 1 + 1 + 1 + 1, 1, none⟩ (.slice (some ⟨g', 0, none⟩) (pre.length + 1) c')).heap[k]? = w3.heap[k]? := fun k hk => Below.heap_setCell _ _ _ _ hk
  have hbelow : Below w.heap.size W (w3.setCell ⟨w.heap.size + 1 + 1 + 1 + 1, 1, none⟩ (.slice (some ⟨g', 0, none⟩) (pre.length + 1) c')) :=
    (((hb2.mono (by omega)).grown hR3 (by simp; have := hbW.size; omega) (fun q hq => by have := (hG.outer.lt q hq).1; omega)).setCell (p := ⟨w.heap.size + 1 + 1 + 1 + 1, 1, none⟩) (by show w.heap.size ≤ w.heap.size + 1 + 1 + 1 + 1; omega) _)
  refine ⟨?_, hbelow, ⟨⟨⟨?_, ?_, ?_⟩, some ⟨g', 0, none⟩, c', fun i => if i = pre.length then .slice a2 n2 c2 else V i, ?_, ?_⟩, hB.trans hbelow⟩⟩
  · refine KeepsOthers.from ?_ _
    have k1 : KeepsOthers W (w2.alloc (.cells #[.slice a2 n2 c2] 22)) := ⟨hb2.size, fun k o hk _ => (hb2.block k (Array.getElem?_eq_some_iff.1 hk).1).trans hk⟩
    refine (k1.trans (KeepsOthers.of_grownBy hR3 fun j o ej hj => ?_)).trans (KeepsOthers.setCell _ _ _)
    rcases ((ownsRow_below hG.outer hbW).alloc (.cells #[.slice a2 n2 c2] 22)).2 with ⟨hv, _⟩ | ⟨g, cap, cur, hv, _, hgb, _⟩
    · rw [hv] at ej; simp [Value.ownBlock] at ej
    · rw [hv] at ej
      obtain rfl : g = j := by simpa [Value.ownBlock] using ej
      rw [hgb] at hj; cases hj; rfl
  · unfold Boxed at h0 ⊢; rw [hset _ (by omega), hold _ (by omega)]; exact h0
  · unfold Boxed at h1 ⊢; rw [hset _ (by omega), hold _ (by omega)]; exact h1
  · unfold RelBox at h3 ⊢; rw [hset _ (by omega), hold _ (by omega)]; exact h3
  · have hl : (pre ++ [x]).length = pre.length + 1 := by simp
    rw [hl]
    exact hB3.set1 _
  · have hl : (pre ++ [x]).length = pre.length + 1 := by simp
    rw [hl]
    refine ((hg.same (by simp [World.setCell]) fun g hg1 _ => hset g (by omega)).full).congr fun i hi => ?_
    by_cases hin : i = pre.length
    · subst hin
      simp [hyx]
    · simp [hin, List.getElem?_append_left (show i < pre.length by omega)]

theorem ownGridV_mono {w : World} {B B' E n : Nat} {v : Value} {V : Nat → Value} {f : Nat → List Int} (h : OwnGridV w B E v n V f) (hB : B' ≤ B) : OwnGridV w B' E v n V f :=
  ⟨ownsRow_mono h.outer hB, h.le, h.top, fun i hi => (h.rows i hi).mono hB, h.hi, h.apart⟩

end Go.Proofs.Ytoojgaaggdnpiaa
