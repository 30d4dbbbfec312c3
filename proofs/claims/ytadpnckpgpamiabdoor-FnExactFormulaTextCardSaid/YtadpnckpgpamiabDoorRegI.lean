/-
  A region that draws its order, by what each operation yields: a condition on the world and one on each value; each operation is shown once, whatever has come up ahead of it.
-/
import Derived.Test.YtadpnckpgpamiabDoorReg
namespace Go.Proofs.YtadpnckpgpamiabDoor
open Go

section
variable {P : Program} {ops : Array Oper} {Q : Exit → Act → World → Prop} {md : Region.Mode}

/-- The frame with the values of operations in their slots. -/
def puts (a : Act) (x : Nat → Value) : List (Nat × Option Tmp) → Act
  | [] => a
  | (k, d) :: r => (puts a x r).put d (x k)
/-- Another value for one operation. -/
def updV (x : Nat → Value) (i : Nat) (v : Value) : Nat → Value := fun k => if k = i then v else x k
theorem updV_self (x : Nat → Value) (i : Nat) (v : Value) : updV x i v i = v := by simp [updV]
theorem updV_ne (x : Nat → Value) {i k : Nat} (v : Value) (h : k ≠ i) : updV x i v k = x k := by simp [updV, h]

/-- No operation is named twice, and no two have the same slot. -/
def apartB : List (Nat × Option Tmp) → Bool
  | [] => true
  | (k, d) :: r => (r.all fun p => p.1 != k && (d == none || p.2 != d)) && apartB r
/-- All operations are named, with their slots. -/
def linksB (ops : Array Oper) (L : List (Nat × Option Tmp)) : Bool :=
  (List.range ops.size).all fun i => match ops[i]? with
    | some o => L.any fun p => p.1 == i && p.2 == o.dst
    | none => true

theorem puts_congr {a : Act} {x y : Nat → Value} : ∀ {L : List (Nat × Option Tmp)}, (∀ p, p ∈ L → x p.1 = y p.1) → puts a x L = puts a y L
  | [], _ => rfl
  | (k, d) :: r, h => by
    show (puts a x r).put d (x k) = (puts a y r).put d (y k)
    rw [puts_congr (L := r) fun p hp => h p (List.mem_cons_of_mem _ hp), h (k, d) List.mem_cons_self]
theorem put_put (a : Act) (d : Option Tmp) (u v : Value) : (a.put d u).put d v = a.put d v := by
  cases d with
  | none => rfl
  | some d => simp [Act.put]
theorem puts_put {a : Act} {x : Nat → Value} {i : Nat} {d : Option Tmp} {v : Value} : ∀ {L : List (Nat × Option Tmp)}, apartB L = true → (i, d) ∈ L → (puts a x L).put d v = puts a (updV x i v) L
  | [], _, h => by cases h
  | (k, e) :: r, ha, h => by
    unfold apartB at ha
    rw [Bool.and_eq_true, List.all_eq_true] at ha
    obtain ⟨h1, h2⟩ := ha
    show ((puts a x r).put e (x k)).put d v = (puts a (updV x i v) r).put e (updV x i v k)
    rcases List.mem_cons.1 h with heq | hm
    · cases heq
      rw [put_put, updV_self, puts_congr (L := r) (x := updV x i v) (y := x) fun p hp => updV_ne _ _ fun e => by
        have := h1 p hp
        rw [e] at this
        simp at this]
    · have hp := h1 _ hm
      simp only [bne_iff_ne, ne_eq, Bool.and_eq_true, Bool.or_eq_true, beq_iff_eq] at hp
      rw [updV_ne _ _ (fun e => hp.1 e.symm), ← puts_put (L := r) h2 hm]
      refine Act.put_comm _ _ _ fun d' hd' he => ?_
      rcases hp.2 with h0 | h0
      · rw [h0] at hd'; cases hd'
      · exact h0 (he.trans hd'.symm)
theorem put_same (a : Act) (d : Option Tmp) : a.put d (match d with | some d => a.tmps.getD d undef | none => undef) = a := by
  cases d with
  | none => rfl
  | some d =>
    obtain ⟨t, ds⟩ := a
    show Act.mk (t.setIfInBounds d (t.getD d undef)) ds = Act.mk t ds
    congr 1
    apply Array.ext_getElem?
    intro i
    rw [Array.getElem?_setIfInBounds]
    by_cases h : d = i
    · subst h
      by_cases hs : d < t.size
      · simp [hs, Array.getD]
      · simp [hs]
    · simp [h]
/-- What stands in the slots. -/
def heldV (a : Act) (L : List (Nat × Option Tmp)) : Nat → Value := fun k =>
  match (L.find? fun p => p.1 == k).bind (·.2) with
  | some d => a.tmps.getD d undef
  | none => undef
theorem puts_same {a : Act} {x : Nat → Value} : ∀ {L : List (Nat × Option Tmp)}, (∀ p, p ∈ L → x p.1 = match p.2 with | some d => a.tmps.getD d undef | none => undef) → puts a x L = a
  | [], _ => rfl
  | (k, d) :: r, h => by
    show (puts a x r).put d (x k) = a
    rw [puts_same (L := r) fun p hp => h p (List.mem_cons_of_mem _ hp), h (k, d) List.mem_cons_self]
    exact put_same a d
theorem apartB_find {L : List (Nat × Option Tmp)} (h : apartB L = true) {p : Nat × Option Tmp} (hp : p ∈ L) : (L.find? fun q => q.1 == p.1) = some p := by
  induction L with
  | nil => cases hp
  | cons q r ih =>
    obtain ⟨k, e⟩ := q
    unfold apartB at h
    rw [Bool.and_eq_true, List.all_eq_true] at h
    rcases List.mem_cons.1 hp with rfl | hm
    · simp
    · have h0 := h.1 p hm
      simp only [bne_iff_ne, ne_eq, Bool.and_eq_true] at h0
      have hk : (k == p.1) = false := by simpa using fun e : k = p.1 => h0.1 e.symm
      rw [List.find?_cons]
      simp only [hk]
      exact ih h.2 hm
theorem puts_held {a : Act} {L : List (Nat × Option Tmp)} (h : apartB L = true) : puts a (heldV a L) L = a :=
  puts_same fun p hp => by
    unfold heldV
    rw [apartB_find h hp]
    rfl

/-- How many have not come up. -/
def cntU (listed : Array Bool) : Nat → Nat
  | 0 => 0
  | n + 1 => cntU listed n + if listed.getD n true = true then 0 else 1
theorem cntU_le (listed : Array Bool) : ∀ n, cntU listed n ≤ n
  | 0 => Nat.le_refl _
  | n + 1 => by have := cntU_le listed n; unfold cntU; split <;> omega
theorem cntU_ge {listed : Array Bool} {i : Nat} : ∀ {n : Nat}, n ≤ i → cntU (listed.setIfInBounds i true) n = cntU listed n
  | 0, _ => rfl
  | n + 1, h => by unfold cntU; rw [cntU_ge (n := n) (by omega), getD_set_ne true (by omega)]
theorem getD_self {listed : Array Bool} {i : Nat} (h : listed.getD i true = false) : (listed.setIfInBounds i true).getD i true = true := by
  by_cases hs : i < listed.size
  · simp [Array.getD, hs]
  · simp [Array.getD, hs] at h
theorem cntU_set {listed : Array Bool} {i : Nat} (hi : listed.getD i true = false) : ∀ {n : Nat}, i < n → cntU (listed.setIfInBounds i true) n + 1 = cntU listed n
  | 0, h => by omega
  | n + 1, h => by
    unfold cntU
    by_cases e : i = n
    · subst e
      rw [cntU_ge (Nat.le_refl _), getD_self hi, hi]
      simp
    · rw [getD_set_ne true e, ← cntU_set hi (n := n) (by omega)]
      omega
theorem cntU_zero {listed : Array Bool} : ∀ {n : Nat}, cntU listed n = 0 → ∀ j, j < n → listed.getD j true = true
  | 0, _, j, h => by omega
  | n + 1, h, j, hj => by
    unfold cntU at h
    have h0 : cntU listed n = 0 := by omega
    by_cases e : j = n
    · subst e
      cases hg : listed.getD j true
      · rw [hg] at h; simp at h
      · rfl
    · exact cntU_zero h0 j (by omega)

theorem wpAny_inv {I : Array Bool → Act → World → Prop}
    (hstep : ∀ listed i a w, i ∈ Region.ready md ops listed → I listed a w → wpOp P ops Q i (I (listed.setIfInBounds i true)) a w)
    (hend : ∀ listed a w, Region.ready md ops listed = [] → I listed a w → Q .normal a w) :
    ∀ (fuel : Nat) (listed : Array Bool) (a : Act) (w : World), cntU listed ops.size ≤ fuel → I listed a w → wpAny P md ops Q fuel listed a w
  | 0, listed, a, w, hf, hI => by
    have hr : Region.ready md ops listed = [] := List.eq_nil_iff_forall_not_mem.2 fun j hj => by
      obtain ⟨h0, o, ho, -⟩ := mem_ready.1 hj
      rw [cntU_zero (by omega) j (Array.getElem?_eq_some_iff.1 ho).1] at h0
      cases h0
    exact ⟨hr, hend listed a w hr hI⟩
  | fuel + 1, listed, a, w, hf, hI => by
    refine ⟨fun hr => hend listed a w hr hI, fun i hi => ?_⟩
    refine wpOp_mono (fun a' w' h => wpAny_inv hstep hend fuel _ a' w' ?_ h) (hstep listed i a w hi hI)
    obtain ⟨h0, o, ho, -⟩ := mem_ready.1 hi
    have := cntU_set h0 (n := ops.size) (Array.getElem?_eq_some_iff.1 ho).1
    omega

/-- Each operation waits only for earlier ones. -/
def edgesDown (md : Region.Mode) (ops : Array Oper) : Bool :=
  (List.range ops.size).all fun j => match ops[j]? with
    | none => true
    | some o => o.after.all fun e => !Region.binds md e || decide (e.on < j)
theorem all_listed (hd : edgesDown md ops = true) {listed : Array Bool} (hs : listed.size = ops.size) (hr : Region.ready md ops listed = []) : ∀ n j, j < n → j < ops.size → listed.getD j false = true
  | 0, j, h, _ => by omega
  | n + 1, j, h, hj => by
    cases hg : listed.getD j false with
    | true => rfl
    | false =>
      exfalso
      have hm : j ∈ Region.ready md ops listed := by
        have ho : ops[j]? = some ops[j] := Array.getElem?_eq_getElem hj
        refine mem_ready.2 ⟨?_, _, ho, fun e he hb => ?_⟩
        · have hjs : j < listed.size := by omega
          simp [Array.getD, hjs] at hg ⊢
          exact hg
        · have hd0 := hd
          unfold edgesDown at hd0
          rw [List.all_eq_true] at hd0
          have h1 := hd0 j (List.mem_range.2 hj)
          rw [ho] at h1
          simp only [Array.all_eq_true_iff_forall_mem] at h1
          have h2 := h1 e he
          rw [hb] at h2
          have h3 : e.on < j := by simpa using h2
          exact all_listed hd hs hr n e.on (by omega) (by omega)
      rw [hr] at hm
      cases hm

/-- A goal that is not looked into. -/
structure Sealed (p : Prop) : Prop where
  out : p

/-- Operation i, from any world with S and any values that fit. -/
def StepOk (P : Program) (ops : Array Oper) (Q : Exit → Act → World → Prop) (S : World → Prop) (N : World → World → Prop) (R : Nat → Value → World → Prop) (L : List (Nat × Option Tmp)) (a : Act) (i : Nat) : Prop :=
  ∀ o : Oper, ops[i]? = some o → ∀ (x : Nat → Value) (w : World), S w → (∀ k, waits .any ops ops.size i k = true → R k (x k) w) →
    ∀ K' : Act → World → Prop, Shut (∀ a' v w', a' = (puts a x L).put o.dst v → N w w' → S w' → R i v w' → K' a' w') →
      if Region.wanted o (yielded ops (puts a x L).tmps) = true then Oper.wp P o (puts a x L) w K' Q else K' ((puts a x L).put o.dst undef) w
theorem StepOk.intro {S : World → Prop} {N : World → World → Prop} {R : Nat → Value → World → Prop} {L : List (Nat × Option Tmp)} {a : Act} {i : Nat} {o : Oper} (d : Option Tmp) (ho : ops[i]? = some o) (hd : o.dst = d)
    (h : ∀ (x : Nat → Value) (w : World), S w → (∀ k, waits .any ops ops.size i k = true → R k (x k) w) →
      ∀ K' : Act → World → Prop, Shut (∀ a' v w', a' = (puts a x L).put d v → N w w' → S w' → R i v w' → K' a' w') →
        Sealed (if Region.wanted o (yielded ops (puts a x L).tmps) = true then Oper.wp P o (puts a x L) w K' Q else K' ((puts a x L).put d undef) w)) : StepOk P ops Q S N R L a i := fun o' ho' => by
  rw [ho] at ho'
  obtain rfl := Option.some.inj ho'
  subst hd
  exact fun x w hS hdep K hK => (h x w hS hdep K hK).out
/-- All of the first n are so. -/
def StepsOk (P : Program) (ops : Array Oper) (Q : Exit → Act → World → Prop) (S : World → Prop) (N : World → World → Prop) (R : Nat → Value → World → Prop) (L : List (Nat × Option Tmp)) (a : Act) : Nat → Prop
  | 0 => True
  | n + 1 => StepsOk P ops Q S N R L a n ∧ StepOk P ops Q S N R L a n
theorem StepsOk.at {S : World → Prop} {N : World → World → Prop} {R : Nat → Value → World → Prop} {L : List (Nat × Option Tmp)} {a : Act} : ∀ {n i : Nat}, StepsOk P ops Q S N R L a n → i < n → StepOk P ops Q S N R L a i
  | 0, _, _, h => by omega
  | n + 1, i, hs, h => by
    by_cases e : i = n
    · subst e; exact hs.2
    · exact StepsOk.at hs.1 (by omega)

theorem wp_region_inv {id : Nat} {a : Act} {w : World} (S : World → Prop) (N : World → World → Prop) (R : Nat → Value → World → Prop) (L : List (Nat × Option Tmp)) (n : Nat)
    (hm : P.follows .mixedOrders = true) (hn : ops.size = n) (ha : apartB L = true) (hl : linksB ops L = true) (hd : edgesDown .any ops = true)
    (hR : ∀ k v w w', N w w' → R k v w → R k v w') (hS : S w.drew)
    (steps : StepsOk P ops Q S N R L a n)
    (hend : ∀ (x : Nat → Value) (w' : World), S w' → (∀ k, k < n → R k (x k) w') → Q .normal (puts a x L) w') :
    (Code.region id ops true).wp P Q a w := by
  subst hn
  refine wp_region_any hm ?_
  refine wpAny_inv (I := fun listed a' w' => listed.size = ops.size ∧ Closed .any ops listed ∧ S w' ∧ ∃ x, a' = puts a x L ∧ ∀ k, k < ops.size → listed.getD k false = true → R k (x k) w') ?_ ?_ _ _ _ _ (cntU_le _ _) ?_
  · rintro listed i a' w' hi ⟨hsz, hc, hS', x, rfl, hx⟩
    obtain ⟨h0, o, ho, hall⟩ := mem_ready.1 hi
    have his : i < ops.size := (Array.getElem?_eq_some_iff.1 ho).1
    have hmem : (i, o.dst) ∈ L := by
      unfold linksB at hl
      rw [List.all_eq_true] at hl
      have h1 := hl i (List.mem_range.2 his)
      rw [ho] at h1
      obtain ⟨p, hp, he⟩ := List.any_eq_true.1 h1
      simp only [Bool.and_eq_true, beq_iff_eq] at he
      obtain ⟨p1, p2⟩ := p
      obtain ⟨rfl, rfl⟩ := he
      exact hp
    refine wpOp_step ho fun K' hK => steps.at his o ho x w' hS' (fun k hk => ?_) K' ?_
    · have hlk := waits_ready hc ops.size i hk hi
      refine hx k ?_ hlk
      by_cases hks : k < ops.size
      · exact hks
      · simp [Array.getD, show ¬ k < listed.size by omega] at hlk
    · intro a2 v w2 ha2 hN hS2 hRv
      refine hK a2 w2 ⟨by simpa using hsz, hc.set hi, hS2, updV x i v, ha2.trans (puts_put ha hmem), fun k hks hk => ?_⟩
      by_cases e : k = i
      · subst e; rw [updV_self]; exact hRv
      · rw [updV_ne _ _ e]
        rcases getD_of_set hk with h | h
        · exact absurd h e
        · exact hR k _ _ _ hN (hx k hks h)
  · rintro listed a' w' hr ⟨hsz, hc, hS', x, rfl, hx⟩
    exact hend x w' hS' fun k hk => hx k hk (all_listed hd hsz hr (k + 1) k (by omega) hk)
  · refine ⟨by simp, ?_, hS, heldV a L, (puts_held ha).symm, fun k _ h => ?_⟩
    · intro j o _ hl
      simp [Array.getD] at hl
    · simp [Array.getD] at h
end

end Go.Proofs.YtadpnckpgpamiabDoor
