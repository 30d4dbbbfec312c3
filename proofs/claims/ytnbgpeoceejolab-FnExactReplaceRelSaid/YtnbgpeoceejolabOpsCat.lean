/-
  Two lists of what has a number and a row, each of its own, put together by append.
-/
import Derived.Test.YtnbgpeoceejolabMoved
namespace Go.Proofs.Ytnbgpeoceejolab
open Go.RowKit

theorem arO_cat (rs qs : List (Int × List Int)) (i : Nat) : arO (rs ++ qs) i = if i < rs.length then arO rs i else arO qs (i - rs.length) := by
  unfold arO
  by_cases h : i < rs.length
  · simp [List.getD, List.getElem?_append_left h, h]
  · simp [List.getD, List.getElem?_append_right (Nat.le_of_not_lt h), h]
theorem rowO_cat (rs qs : List (Int × List Int)) (i : Nat) : rowO (rs ++ qs) i = if i < rs.length then rowO rs i else rowO qs (i - rs.length) := by
  unfold rowO
  by_cases h : i < rs.length
  · simp [List.getD, List.getElem?_append_left h, h]
  · simp [List.getD, List.getElem?_append_right (Nat.le_of_not_lt h), h]

theorem OwnOpsV.cat {T : TypeId} {w w2 w3 : World} {B n m : Nat} {v v2 v' : Value} {V U : Nat → Value} {rs qs : List (Int × List Int)} {xs ys : List Value} (h : OwnOpsV T w B w.heap.size v n V rs) (hn : rs.length = n)
    (hxl : xs.length = n * 2) (hx : ∀ i, i < n → xs[i * 2]? = some (.int .i64 (arO rs i)) ∧ xs[i * 2 + 1]? = some (V i)) (hb : Below w.heap.size w w2)
    (h2 : OwnOpsV T w2 w.heap.size w2.heap.size v2 m U qs) (hm : qs.length = m) (hyl : ys.length = m * 2) (hy : ∀ i, i < m → ys[i * 2]? = some (.int .i64 (arO qs i)) ∧ ys[i * 2 + 1]? = some (U i)) (hB : B ≤ w.heap.size)
    (ho : w3.ownsRow B T 2 v' (n + m) (xs ++ ys)) (hg : w2.grownBy w3 v.ownBlock) (htop : ∀ g, v'.ownBlock = some g → v.ownBlock = some g ∨ w2.heap.size ≤ g) :
    OwnOpsV T w3 B w3.heap.size v' (n + m) (fun i => if i < n then V i else U (i - n)) (rs ++ qs) := by
  subst hn
  subst hm
  have hold : ∀ i, i < rs.length → OwnRow w3 B (V i) (rowO rs i) := fun i hi => by
    refine World.ownsRow.kept ((h.rows i hi).below hb) hg ?_
    cases hv : v.ownBlock with
    | none =>
      cases hv2 : (V i).ownBlock with
      | none => exact .inl rfl
      | some g => exact .inr (by simp)
    | some g => exact .inr fun e => h.top_ne i hi g hv e
  have hnew : ∀ i, i < qs.length → OwnRow w3 B (U i) (rowO qs i) := fun i hi => by
    refine OwnRow.mono (World.ownsRow.kept (h2.rows i hi) hg ?_) hB
    cases hv2 : (U i).ownBlock with
    | none => exact .inl rfl
    | some g =>
      refine .inr fun e => ?_
      have h1 := h.top g e.symm
      have h3 := ((h2.rows i hi).lt g hv2).1
      omega
  have hnb : ∀ i, i < qs.length → ∀ g, (U i).ownBlock = some g → w.heap.size ≤ g ∧ g < w2.heap.size := fun i hi g e => (h2.rows i hi).lt g e
  refine ⟨⟨_, ho, fun i hi => ?_⟩, Nat.le_refl _, fun g hg => (ho.lt g hg).2, fun i hi => ?_, fun i hi g hg => ?_, fun i j hij hj g hg => ?_, fun i hi g hg he => ?_⟩
  · rw [arO_cat]
    by_cases hin : i < rs.length
    · obtain ⟨e1, e2⟩ := hx i hin
      rw [if_pos hin, if_pos hin, List.getElem?_append_left (by omega), List.getElem?_append_left (by omega)]
      exact ⟨e1, e2⟩
    · obtain ⟨e1, e2⟩ := hy (i - rs.length) (by omega)
      rw [if_neg hin, if_neg hin, List.getElem?_append_right (by omega), List.getElem?_append_right (by omega), hxl]
      have f1 : i * 2 - rs.length * 2 = (i - rs.length) * 2 := by omega
      have f2 : i * 2 + 1 - rs.length * 2 = (i - rs.length) * 2 + 1 := by omega
      rw [f1, f2]
      exact ⟨e1, e2⟩
  · rw [rowO_cat]
    by_cases hin : i < rs.length
    · rw [if_pos hin]; simp only [hin, if_true]; exact hold i hin
    · rw [if_neg hin]; simp only [hin, if_false]; exact hnew (i - rs.length) (by omega)
  · by_cases hin : i < rs.length
    · simp only [hin, if_true] at hg; exact ((hold i hin).lt g hg).2
    · simp only [hin, if_false] at hg; exact ((hnew (i - rs.length) (by omega)).lt g hg).2
  · by_cases hin : i < rs.length
    · simp only [hin, if_true] at hg
      by_cases hjn : j < rs.length
      · simp only [hjn, if_true]
        exact h.apart i j hij hjn g hg
      · simp only [hjn, if_false]
        intro e
        have h1 := ((h.rows i hin).lt g hg).2
        have h3 := (hnb (j - rs.length) (by omega) g e).1
        omega
    · simp only [hin, if_false] at hg
      have hjn : ¬ j < rs.length := by omega
      simp only [hjn, if_false]
      exact h2.apart (i - rs.length) (j - rs.length) (by omega) (by omega) g hg
  · rcases htop g hg with hv | hv
    · by_cases hin : i < rs.length
      · simp only [hin, if_true] at he
        exact h.top_ne i hin g hv he
      · simp only [hin, if_false] at he
        have h1 := h.top g hv
        have h3 := (hnb (i - rs.length) (by omega) g he).1
        omega
    · by_cases hin : i < rs.length
      · simp only [hin, if_true] at he
        have h3 := ((h.rows i hin).lt g he).2
        have := hb.size
        omega
      · simp only [hin, if_false] at he
        have h3 := (hnb (i - rs.length) (by omega) g he).2
        omega


theorem OwnOpsV.cellsOne {T : TypeId} {w : World} {B E n : Nat} {v : Value} {V : Nat → Value} {rs : List (Int × List Int)} (h : OwnOpsV T w B E v n V rs) :
    ∃ ys, w.ownsRow B T 2 v n ys ∧ (∀ i, i < n → ys[i * 2]? = some (.int .i64 (arO rs i)) ∧ ys[i * 2 + 1]? = some (V i)) ∧ ys.length = n * 2 ∧ ∀ u ∈ ys, u.oneCell' = true := by
  obtain ⟨ys, ho, hy⟩ := h.outer
  have hl := ownsRow_len ho
  refine ⟨ys, ho, hy, hl, fun u hu => ?_⟩
  obtain ⟨j, hj, hju⟩ := List.getElem_of_mem hu
  have hj' : ys[j]? = some u := by rw [List.getElem?_eq_getElem hj, hju]
  by_cases hp : j % 2 = 0
  · have e : j = (j / 2) * 2 := by omega
    have h1 := (hy (j / 2) (by omega)).1
    rw [← e, hj'] at h1
    simp only [Option.some.injEq] at h1
    subst h1
    rfl
  · have e : j = (j / 2) * 2 + 1 := by omega
    have h1 := (hy (j / 2) (by omega)).2
    rw [← e, hj'] at h1
    simp only [Option.some.injEq] at h1
    obtain ⟨a, m, c, hv, _⟩ := RowAt.slice (h.rows (j / 2) (by omega)).rowAt
    rw [h1, hv]
    rfl

/-- The cells of a list with a block, as append reads them. -/
theorem news_of_own {T : TypeId} {w : World} {B n c g : Nat} {ys : List Value} (h : w.ownsRow B T 2 (.slice (some ⟨g, 0, none⟩) n c) n ys) (hl : ys.length = n * 2) :
    ∀ j u, ys[j]? = some u → w.cell? ((⟨g, 0, none⟩ : Addr).add j) = some u := fun j u hu => by
  have hadd : (⟨g, 0, none⟩ : Addr).add j = ⟨g, j, none⟩ := by unfold Addr.add; split <;> simp_all
  have hj := (List.getElem?_eq_some_iff.1 hu).1
  rw [hadd, h.cellAt j (by omega)]
  exact hu

section
variable {P : Program} (w : World)
/-- append onto a list that has a block; nothing may be what is appended. -/
theorem run_append_block (t ty : TypeId) (base : Nat) (e : TypeId) (i : TypeInfo) (z : Value) (size bytes : Nat) (ht : P.underlying t = some (.slice e)) (hi : P.info? e = some i) (hz : i.zero = some z)
    (hsize : i.size = size) (hby : i.bytes = bytes) (hzs : z.cells.size = size) (hsz : 0 < size)
    (v : Value) (n : Nat) (xs : List Value) (hown : w.ownsRow base e size v n xs) (hv : v.ownBlock ≠ none)
    (ad : Addr) (m c : Nat) (news : List Value) (hl : news.length = m * size) (hnews : ∀ j u, news[j]? = some u → w.cell? (ad.add j) = some u) (h1 : ∀ u ∈ news, u.oneCell' = true)
    (h63 : n + m ≤ maxLen) (hbytes : (n + m) * bytes ≤ 140737488355328) (hbase : base ≤ w.heap.size) (H : Nat) (hH : w.heap.size = H) :
    ∃ g cap w', (Builtin.append_ #[t, t] ty #[v, .slice (some ad) m c]).run P w = .ok (.slice (some ⟨g, 0, none⟩) (n + m) cap) w' ∧
      w'.ownsRow base e size (.slice (some ⟨g, 0, none⟩) (n + m) cap) (n + m) (xs ++ news) ∧ w.grownBy w' v.ownBlock ∧ (v.ownBlock = some g ∨ g = H) := by
  obtain ⟨v', w', hr, h2, h3, _, h5⟩ := run_append_own_at (P := P) w base t ty e i z size bytes ht hi hz hsize hby hzs hsz v n xs hown ad m c news hl hnews h1 h63 hbytes hbase
  rcases h2.2 with ⟨h0, _⟩ | ⟨g, cap, cur, h0, hb, hg, _⟩
  · exfalso
    rw [h0] at h5
    rcases h5 with h5 | h5
    · exact hv (by rw [← h5]; rfl)
    · simp [Value.ownBlock] at h5
  · subst h0
    refine ⟨g, cap, w', hr, h2, h3, ?_⟩
    rcases h5 with h5 | h5
    · exact .inl (by rw [← h5]; rfl)
    · right
      have : g = w.heap.size := by simpa [Value.ownBlock] using h5
      rw [this, hH]

theorem step_append_gen {ops : Array Oper} {o : Oper} {a : Act} {K : Act → World → Prop} {Q : Exit → Act → World → Prop} {E : Prop} (hgd : o.guard = none) (s x : Operand) (t : TypeId)
    (ho : o.op = .call { callee := .builtin .append, args := #[s, x], argTypes := #[t, t] })
    (base : Nat) (e : TypeId) (i : TypeInfo) (z : Value) (size bytes : Nat) (ht : P.underlying t = some (.slice e)) (hi : P.info? e = some i) (hz : i.zero = some z)
    (hsize : i.size = size) (hby : i.bytes = bytes) (hzs : z.cells.size = size) (hsz : 0 < size)
    (v : Value) (n : Nat) (xs : List Value) (hs : a.eval s = v) (hown : w.ownsRow base e size v n xs)
    (ad : Addr) (m c : Nat) (news : List Value) (hx : a.eval x = .slice (some ad) m c) (hl : news.length = m * size) (hnews : ∀ j u, news[j]? = some u → w.cell? (ad.add j) = some u) (h1 : ∀ u ∈ news, u.oneCell' = true)
    (h63 : n + m ≤ maxLen) (hbytes : (n + m) * bytes ≤ 140737488355328) (hbase : base ≤ w.heap.size)
    (h : ∀ a' cap w', w'.ownsRow base e size (.slice a' (n + m) cap) (n + m) (xs ++ news) → w.grownBy w' v.ownBlock → (∀ g, (Value.slice a' (n + m) cap).ownBlock = some g → v.ownBlock = some g ∨ w.heap.size ≤ g) → K (a.put o.dst (.slice a' (n + m) cap)) w') :
    if Region.wanted o (yielded ops a.tmps) = true then Oper.wp P o a w K Q else E := by
  have hw : Region.wanted o (yielded ops a.tmps) = true := by simp [Region.wanted, hgd]
  rw [if_pos hw]
  obtain ⟨v', w', hr, h2, h3, _, h5⟩ := run_append_own_at (P := P) w base t o.type e i z size bytes ht hi hz hsize hby hzs hsz v n xs hown ad m c news hl hnews h1 h63 hbytes hbase
  have htop : ∀ g, v'.ownBlock = some g → v.ownBlock = some g ∨ w.heap.size ≤ g := fun g hg => by
    rcases h5 with h5 | h5
    · exact .inl (h5 ▸ hg)
    · right
      rw [h5] at hg
      simp only [Option.some.injEq] at hg
      omega
  obtain ⟨a', cap, rfl⟩ : ∃ a' cap, v' = .slice a' (n + m) cap := by
    rcases h2.2 with ⟨h0, hn0⟩ | ⟨g, cap, cur, h0, hb, hg, _⟩
    · exact ⟨none, 0, by rw [h0]; congr 1; omega⟩
    · exact ⟨some ⟨g, 0, none⟩, cap, h0⟩
  unfold Oper.wp execOp
  simp only [ho, resolve, invoke, builtin, Sem.run_bind, Sem.run_pure, Result.andThen_ok, List.map_toArray, List.map_cons, List.map_nil, hs, hx, hr]
  exact h a' cap w' h2 h3 htop

theorem step_append_block {ops : Array Oper} {o : Oper} {a : Act} {K : Act → World → Prop} {Q : Exit → Act → World → Prop} {E : Prop} (hgd : o.guard = none) (s x : Operand) (t : TypeId)
    (ho : o.op = .call { callee := .builtin .append, args := #[s, x], argTypes := #[t, t] })
    (base : Nat) (e : TypeId) (i : TypeInfo) (z : Value) (size bytes : Nat) (ht : P.underlying t = some (.slice e)) (hi : P.info? e = some i) (hz : i.zero = some z)
    (hsize : i.size = size) (hby : i.bytes = bytes) (hzs : z.cells.size = size) (hsz : 0 < size)
    (v : Value) (n : Nat) (xs : List Value) (hs : a.eval s = v) (hown : w.ownsRow base e size v n xs) (hv : v.ownBlock ≠ none)
    (ad : Addr) (m c : Nat) (news : List Value) (hx : a.eval x = .slice (some ad) m c) (hl : news.length = m * size) (hnews : ∀ j u, news[j]? = some u → w.cell? (ad.add j) = some u) (h1 : ∀ u ∈ news, u.oneCell' = true)
    (h63 : n + m ≤ maxLen) (hbytes : (n + m) * bytes ≤ 140737488355328) (hbase : base ≤ w.heap.size) (H : Nat) (hH : w.heap.size = H)
    (h : ∀ g cap w', w'.ownsRow base e size (.slice (some ⟨g, 0, none⟩) (n + m) cap) (n + m) (xs ++ news) → w.grownBy w' v.ownBlock → (v.ownBlock = some g ∨ g = H) → K (a.put o.dst (.slice (some ⟨g, 0, none⟩) (n + m) cap)) w') :
    if Region.wanted o (yielded ops a.tmps) = true then Oper.wp P o a w K Q else E := by
  have hw : Region.wanted o (yielded ops a.tmps) = true := by simp [Region.wanted, hgd]
  rw [if_pos hw]
  obtain ⟨g, cap, w', hr, h2, h3, h4⟩ := run_append_block (P := P) w t o.type base e i z size bytes ht hi hz hsize hby hzs hsz v n xs hown hv ad m c news hl hnews h1 h63 hbytes hbase H hH
  unfold Oper.wp execOp
  simp only [ho, resolve, invoke, builtin, Sem.run_bind, Sem.run_pure, Result.andThen_ok, List.map_toArray, List.map_cons, List.map_nil, hs, hx, hr]
  exact h g cap w' h2 h3 h4
end

set_option linter.unusedSimpArgs false in
set_option maxHeartbeats 2000000 in
theorem l03MovedS (v1 v2 : Value) (rs : List (Int × List Int)) (to : List Int) (w : World) (h1 : OpsAt w v1 rs) (h2 : RowAt w v2 to) (hl : ∀ k, k < rs.length → (rowO rs k).length ≤ 4) (hr : ∀ k, k < rs.length → ∀ i, i < (rowO rs k).length → 0 ≤ intN (rowO rs k) i ∧ intN (rowO rs k) i < to.length) (hm : rs.length ≤ 1000) :
    Calls Try.prog 29 #[v1, v2] w fun e w' => ∃ g c, e = .returned (.slice (some ⟨g, 0, none⟩) rs.length c) ∧ OwnOps 83 w' w.heap.size w'.heap.size (.slice (some ⟨g, 0, none⟩) rs.length c) (movedL rs to) ∧ Below w.heap.size w w' := by
  obtain ⟨i0, hi, hz0, hz1, hz2⟩ := info_parts info_Atom
  obtain ⟨a1, c1, rfl, hn1, hc1⟩ := h1
  have HC1 := Lib.hid hc1
  have HT0 := Lib.hid h2
  have HL := Lib.hid hl
  have HRR := Lib.hid hr
  clear hc1 h2 hl hr
  go_enter Try.func29, Try.ntmps29
  go_wp2
  go_loopw [5, 6] (fun v i wr => ∃ (k : Nat) (a : Option Addr) (n c : Nat), k ≤ rs.length ∧ i = .int .i64 k ∧ v = .slice a n c ∧ (∃ g, a = some ⟨g, 0, none⟩) ∧ OwnOps 83 wr w.heap.size wr.heap.size (.slice a n c) (movedK rs to k) ∧ Below w.heap.size w wr) (fun _ i _ => rs.length - (intOf i).toNat)
  case atStart => exact ⟨0, _, _, _, Nat.zero_le _, rfl, rfl, ⟨_, rfl⟩, OwnOps.empty _ w, (Below.refl _ _).alloc (Nat.le_refl _) _⟩
  case round =>
    obtain ⟨k, a, n, c, hk, rfl, rfl, hag, hg, hbr⟩ := hrel
    have HG := Lib.hid hg
    have HBR := Lib.hid hbr
    clear hg hbr
    by_cases hlt : k < rs.length
    · obtain ⟨b1, off1, ha1, hcell1⟩ := HC1.out (by omega)
      subst ha1
      obtain ⟨y0, a2, n2, c2, y1, hr0⟩ := hcell1 k hlt
      have HR0 := Lib.hid hr0
      have HTO := Lib.hid HT0.out
      have HRG := Lib.hid (HRR.out k hlt)
      have hl4 := HL.out k hlt
      have hlt' : (k : Int) < (rs.length : Int) := by omega
      have y0 := below_cell HBR.out y0
      have y1 := below_cell HBR.out y1
      clear hcell1 hr0
      go_wp2_with fail
      refine wp_region_noPanic ?_
      refine wp_region_late (S := (fun w' => w'.cell? ⟨b1, off1 + k * 2, none⟩ = some (.int .i64 (arO rs k)) ∧ w'.cell? ⟨b1, off1 + k * 2 + 1, none⟩ = some (.slice a2 n2 c2) ∧ Below w.heap.size w w')) [15] (by kernel_rfl) ?_ (fun hHeld => ?_)
      · exact ⟨y0, y1, HBR.out.trans ((QW.refl wr).drew.below _)⟩
      refine wpAnyL_free (i := 0) (v := ?_) (some 14) rfl rfl (by kernel_rfl) (by kernel_rfl) (by kernel_rfl) (by decide) (fun _ _ _ h => h) (Or.inl ⟨by rfl, ?_⟩) (fun h0 => by assumption) ?_
      rotate_left
      · intro wS
        go_simp
        try with_reducible rfl
      try simp only [Act.put, List.setIfInBounds_toArray, List.set_cons_zero, List.set_cons_succ]
      refine wpAnyL_free (i := 1) (v := ?_) (some 15) rfl rfl (by kernel_rfl) (by kernel_rfl) (by kernel_rfl) (by decide) (fun _ _ _ h => h) (Or.inl ⟨by rfl, ?_⟩) (fun h0 => by assumption) ?_
      rotate_left
      · intro wS
        go_simp
        try with_reducible rfl
      try simp only [Act.put, List.setIfInBounds_toArray, List.set_cons_zero, List.set_cons_succ]
      refine wpAnyL_free (i := 2) (v := ?_) (some 16) rfl rfl (by kernel_rfl) (by kernel_rfl) (by kernel_rfl) (by decide) (fun _ _ _ h => h) (Or.inl ⟨by rfl, ?_⟩) (fun h0 => by assumption) ?_
      rotate_left
      · intro wS
        go_simp
        try with_reducible rfl
      try simp only [Act.put, List.setIfInBounds_toArray, List.set_cons_zero, List.set_cons_succ]
      refine wpAnyL_free (i := 3) (v := ?_) (some 17) rfl rfl (by kernel_rfl) (by kernel_rfl) (by kernel_rfl) (by decide) (fun _ _ _ h => h) (Or.inl ⟨by rfl, ?_⟩) (fun h0 => by assumption) ?_
      rotate_left
      · intro wS
        go_simp
        try with_reducible rfl
      try simp only [Act.put, List.setIfInBounds_toArray, List.set_cons_zero, List.set_cons_succ]
      refine wpAnyL_free (i := 4) (v := ?_) (some 18) rfl rfl (by kernel_rfl) (by kernel_rfl) (by kernel_rfl) (by decide) (fun _ _ _ h => h) (Or.inl ⟨by rfl, ?_⟩) (fun h0 => by assumption) ?_
      rotate_left
      · intro wS
        go_simp
        try with_reducible rfl
      try simp only [Act.put, List.setIfInBounds_toArray, List.set_cons_zero, List.set_cons_succ]
      refine wpAnyL_take (i := 5) (v := ?_) (some 19) rfl rfl (by kernel_rfl) (by kernel_rfl) (by kernel_rfl) (by kernel_rfl) (by kernel_rfl) (fun _ _ _ h => h) (Or.inl ⟨by rfl, ?_⟩) (by assumption) ?_
      rotate_left
      · intro wS hSw
        try dsimp only at hSw
        go_simp
        try with_reducible rfl
      try simp only [Act.put, List.setIfInBounds_toArray, List.set_cons_zero, List.set_cons_succ]
      refine wpAnyL_free (i := 6) (v := ?_) (some 20) rfl rfl (by kernel_rfl) (by kernel_rfl) (by kernel_rfl) (by decide) (fun _ _ _ h => h) (Or.inl ⟨by rfl, ?_⟩) (fun h0 => by assumption) ?_
      rotate_left
      · intro wS
        go_simp
        try with_reducible rfl
      try simp only [Act.put, List.setIfInBounds_toArray, List.set_cons_zero, List.set_cons_succ]
      refine wpAnyL_free (i := 7) (v := ?_) (some 21) rfl rfl (by kernel_rfl) (by kernel_rfl) (by kernel_rfl) (by decide) (fun _ _ _ h => h) (Or.inl ⟨by rfl, ?_⟩) (fun h0 => by assumption) ?_
      rotate_left
      · intro wS
        go_simp
        try with_reducible rfl
      try simp only [Act.put, List.setIfInBounds_toArray, List.set_cons_zero, List.set_cons_succ]
      refine wpAnyL_free (i := 8) (v := ?_) (some 22) rfl rfl (by kernel_rfl) (by kernel_rfl) (by kernel_rfl) (by decide) (fun _ _ _ h => h) (Or.inl ⟨by rfl, ?_⟩) (fun h0 => by assumption) ?_
      rotate_left
      · intro wS
        go_simp
        try with_reducible rfl
      try simp only [Act.put, List.setIfInBounds_toArray, List.set_cons_zero, List.set_cons_succ]
      refine wpAnyL_free (i := 9) (v := ?_) (some 23) rfl rfl (by kernel_rfl) (by kernel_rfl) (by kernel_rfl) (by decide) (fun _ _ _ h => h) (Or.inl ⟨by rfl, ?_⟩) (fun h0 => by assumption) ?_
      rotate_left
      · intro wS
        go_simp
        try with_reducible rfl
      try simp only [Act.put, List.setIfInBounds_toArray, List.set_cons_zero, List.set_cons_succ]
      refine wpAnyL_take (i := 10) (v := ?_) (some 24) rfl rfl (by kernel_rfl) (by kernel_rfl) (by kernel_rfl) (by kernel_rfl) (by kernel_rfl) (fun _ _ _ h => h) (Or.inl ⟨by rfl, ?_⟩) (by assumption) ?_
      rotate_left
      · intro wS hSw
        try dsimp only at hSw
        go_simp
        try with_reducible rfl
      try simp only [Act.put, List.setIfInBounds_toArray, List.set_cons_zero, List.set_cons_succ]
      refine wpAnyL_free (i := 11) (v := ?_) (some 25) rfl rfl (by kernel_rfl) (by kernel_rfl) (by kernel_rfl) (by decide) (fun _ _ _ h => h) (Or.inl ⟨by rfl, ?_⟩) (fun h0 => by assumption) ?_
      rotate_left
      · intro wS
        go_simp
        try with_reducible rfl
      try simp only [Act.put, List.setIfInBounds_toArray, List.set_cons_zero, List.set_cons_succ]
      refine wpAnyL_ready (rs := [12]) (by kernel_rfl) (by simp) ?_
      refine AllReadyL.cons rfl (fun K hK => ?_) AllReadyL.nil
      have HBc := Lib.hid (hHeld.2.2 : Below w.heap.size w _)
      go_simp; go_at_call 57; refine (l01MappedE _ _ (rowO rs k) to _ (HR0.out.below HBc.out) (HTO.out.below HBc.out) hl4 HRG.out).mono ?_; rintro e w3 ⟨a3, n3, c3, rfl, ho3, hb3⟩
      have HO3 := Lib.hid ho3
      have HB3 := Lib.hid ((((QW.refl wr).drew.below wr.heap.size)).trans hb3)
      refine hK.out _ _ ?_ (fun hHeld => ?_)
      · exact ⟨below_cell hb3 hHeld.1, below_cell hb3 hHeld.2.1, hHeld.2.2.trans (hb3.mono hHeld.2.2.size)⟩
      clear hK K
      try simp only [Act.put, List.setIfInBounds_toArray, List.set_cons_zero, List.set_cons_succ]
      refine wpAnyL_free (i := 13) (v := ?_) (some 27) rfl rfl (by kernel_rfl) (by kernel_rfl) (by kernel_rfl) (by decide) (fun _ _ _ h => h) (Or.inl ⟨by rfl, ?_⟩) (fun h0 => by assumption) ?_
      rotate_left
      · intro wS
        go_simp
        try with_reducible rfl
      try simp only [Act.put, List.setIfInBounds_toArray, List.set_cons_zero, List.set_cons_succ]
      refine wpAnyL_ready (rs := [14]) (by kernel_rfl) (by simp) ?_
      refine AllReadyL.cons rfl (fun K hK => ?_) AllReadyL.nil
      go_simp
      refine hK.out _ _ ?_ (fun hHeld => ?_)
      · exact ⟨below_cell ((Below.refl _ _).alloc (Nat.le_refl _) _) hHeld.1, below_cell ((Below.refl _ _).alloc (Nat.le_refl _) _) hHeld.2.1, hHeld.2.2.trans (((Below.refl _ _).alloc (Nat.le_refl _) _).mono hHeld.2.2.size)⟩
      clear hK K
      try simp only [Act.put, List.setIfInBounds_toArray, List.set_cons_zero, List.set_cons_succ]
      refine wpAnyL_ready (rs := [15]) (by kernel_rfl) (by simp) ?_
      refine AllReadyL.last rfl (by kernel_rfl) (fun K hK => ?_) AllReadyL.nil
      obtain ⟨V, hV⟩ := HG.out
      have hV' := hV
      obtain ⟨xs, hxo, hxx⟩ := hV'.outer
      have HV := Lib.hid hV
      have HX := Lib.hid hxx
      have hxl := ownsRow_len hxo
      have HXL := Lib.hid hxl
      have hmk := movedK_len rs to k (by omega)
      have HMK := Lib.hid hmk
      have hal := (Below.refl w3.heap.size w3).alloc (Nat.le_refl _) (.cells #[.int .i64 (arO rs k), .slice a3 n3 c3] 83)
      have HAL := Lib.hid hal
      clear hV hV' hxx hxl hmk hal
      refine step_append_lies _ (by rfl) _ _ 30 (by rfl) w.heap.size 83 i0 (.agg #[.int .i64 0, .slice none 0 0]) 2 32 Try.underlying30 hi hz0 hz1 hz2 (by rfl) (by decide) (.slice a n c) (movedK rs to k).length _ (by rfl) ((ownsRow_below hxo (HB3.out)).alloc _) _ 1 1 [.int .i64 (arO rs k), .slice a3 n3 c3] (by rfl) (by rfl) (fun j u hu => World.news_of_block (heap_alloc_new w3 _) j u (by simpa using hu)) (by simp [Value.oneCell']) (by omega) (by rw [HMK.out]; unfold maxLen; omega) (by rw [HMK.out]; omega) (by have := HB3.out.size; have := HBR.out.size; simp; omega) _ rfl ?_; intro g5 cap5 w5 hown5 hgrow5 hat5 hlt5
      have HGM := Lib.hid (OwnOpsV.grow HV.out rfl HXL.out HX.out (HB3.out.trans (HAL.out.mono HB3.out.size)) (OwnRow.below HO3.out HAL.out) HBR.out.size hown5 hgrow5 (fun g hg => by
        obtain rfl : g5 = g := by simpa [Value.ownBlock] using hg
        rcases hat5 with e | e
        · exact .inl e
        · exact .inr (by omega)))
      have HB5 := Lib.hid (((HBR.out.trans ((HB3.out.trans (HAL.out.mono HB3.out.size)).mono HBR.out.size))).grown hgrow5 (by have := HB3.out.size; have := HBR.out.size; simp; omega) (fun q hq => (hxo.lt q hq).1))
      clear hown5 hgrow5 hat5 hlt5 hxo
      refine hK.out _ _ ?_
      clear hK K
      try simp only [Act.put, List.setIfInBounds_toArray, List.set_cons_zero, List.set_cons_succ]
      refine wpAnyL_free (i := 16) (v := ?_) (some 5) rfl rfl (by kernel_rfl) (by kernel_rfl) (by kernel_rfl) (by decide) (fun _ _ _ h => h) (Or.inl ⟨by rfl, ?_⟩) (fun h0 => absurd h0 (by decide)) ?_
      rotate_left
      · intro wS
        go_simp
        try with_reducible rfl
      try simp only [Act.put, List.setIfInBounds_toArray, List.set_cons_zero, List.set_cons_succ]
      refine wpAnyL_done (by kernel_rfl) ?_ _
      refine NoPanic.normal ?_
      go_wp2
      go_roundw
      case rel =>
        refine ⟨k + 1, _, _, _, by omega, by go_num, rfl, ⟨_, rfl⟩, ?_, HB5.out⟩
        rw [movedK_succ rs to k hlt]
        have e : (movedK rs to k ++ [(arO rs k, mapped to (rowO rs k))]).length = (movedK rs to k).length + 1 := by simp
        show ∃ V, OwnOpsV _ _ _ _ _ (movedK rs to k ++ [(arO rs k, mapped to (rowO rs k))]).length V _
        rw [e]
        exact ⟨_, HGM.out⟩
      case measure => simp [intOf]; omega
    · obtain rfl : k = rs.length := by omega
      obtain ⟨g, rfl⟩ := hag
      obtain rfl : n = rs.length := by
        obtain ⟨V, hV⟩ := HG.out
        obtain ⟨xs, h1, _⟩ := hV.outer
        have hl := movedK_len rs to rs.length (Nat.le_refl _)
        rcases ownsRow2_parts h1 with ⟨e1, e2, _⟩ | ⟨g, cc, e1, _⟩ <;> simp only [Value.slice.injEq] at e1 <;> omega
      go_wp2
      go_ret
      exact ⟨g, c, rfl, HG.out, HBR.out⟩

end Go.Proofs.Ytnbgpeoceejolab
