/-
  beginOf of the program, and where the rows of the reduced form begin.
-/
import Derived.Test.YtnbgpeoceejolaaFirst7
import Derived.Test.YtnbgpeoceejolaaGElimM
import Derived.Test.YtnbgpeoceejolaaDepends
namespace Go.Proofs.Ytnbgpeoceejolaa
open Go.RowKit

set_option linter.unusedSimpArgs false in
set_option maxHeartbeats 4000000 in
set_option maxRecDepth 100000 in
theorem isNonzeroB (x : Int) (w : World) : Calls Try.prog 100 #[.int .i64 x] w fun e w' => e = .returned (.bool (x != 0)) ∧ w = w' := by
  go_enter Try.func100, Try.ntmps100
  go_wp2
  go_ret
  exact ⟨rfl, rfl⟩

set_option linter.unusedSimpArgs false in
set_option maxHeartbeats 4000000 in
set_option maxRecDepth 100000 in
theorem indexNZ2 (v : Value) (xs : List Int) (w : World) (h : RowAt w v xs) :
    Calls Try.prog 147 #[v, .func (.func 100) #[] #[]] w fun e w' => ∃ m : Int, e = .returned (.int .i64 m) ∧ (0 ≤ m ↔ ¬ ∀ j, j < xs.length → intN xs j = 0) ∧ w = w' := by
  obtain ⟨a1, c1, rfl, hn1, hc1⟩ := h
  have HC1 := Lib.hid hc1
  clear hc1
  go_enter Try.func147, Try.ntmps147
  go_wp2
  go_loop [8] (fun i => ∃ k : Nat, k ≤ xs.length ∧ i = .int .i64 k ∧ (∀ j, j < k → intN xs j = 0)) (fun i => xs.length - (intOf i).toNat)
  case atStart => exact ⟨0, Nat.zero_le _, rfl, fun j hj => absurd hj (Nat.not_lt_zero _)⟩
  case round =>
    obtain ⟨k, hk, rfl, hall⟩ := hrel
    have HA := Lib.hid hall
    clear hall
    by_cases hlt : k < xs.length
    · obtain ⟨b1, off1, rfl, hd1⟩ := HC1.out (by omega)
      have e1 := hd1 k hlt
      obtain ⟨x, hx⟩ : ∃ x, intN xs k = x := ⟨_, rfl⟩
      have e2 : w.cell? ⟨b1, off1 + k, none⟩ = some (.int .i64 x) := by rw [← hx]; exact e1
      have HX := Lib.hid hx
      have hlt2 : (k : Int) < (xs.length : Int) := by omega
      clear hd1 e1 hx
      by_cases hz : x = 0
      · have HZ := Lib.hid hz
        have hzb : (x != 0) = false := by rw [hz]; rfl
        clear hz
        go_wp2_with fail
        refine (isNonzeroB x _).mono ?_
        rintro e w2 ⟨rfl, rfl⟩
        go_wp2
        go_round
        case rel =>
          refine ⟨k + 1, by omega, by go_num, fun j hj => ?_⟩
          by_cases hjk : j = k
          · subst hjk; rw [HX.out]; exact HZ.out
          · exact HA.out j (by omega)
        case measure => simp [intOf]; omega
      · have hzb : (x != 0) = true := bne_iff_ne.2 hz
        have HF : Hid (¬ ∀ j, j < xs.length → intN xs j = 0) := Lib.hid fun h => hz (by rw [← HX.out]; exact h k hlt)
        clear hz
        go_wp2_with fail
        refine (isNonzeroB x _).mono ?_
        rintro e w2 ⟨rfl, rfl⟩
        go_wp2
        go_ret
        exact ⟨_, rfl, ⟨fun _ => HF.out, fun _ => by omega⟩, rfl⟩
    · obtain rfl : k = xs.length := by omega
      go_wp2
      go_ret
      exact ⟨_, rfl, ⟨fun h => absurd h (by decide), by rintro ⟨x, h1, h2⟩; exact absurd (HA.out x h1) h2⟩, rfl⟩

set_option linter.unusedSimpArgs false in
set_option maxHeartbeats 4000000 in
set_option maxRecDepth 100000 in
theorem containsNZ2 (v : Value) (xs : List Int) (b : Bool) (w : World) (h : RowAt w v xs) (hb : Tells b (∀ j, j < xs.length → intN xs j = 0)) :
    Calls Try.prog 99 #[v, .func (.func 100) #[] #[]] w fun e w' => e = .returned (.bool (!b)) ∧ w = w' := by
  have H := Lib.hid h
  have HB := Lib.hid hb
  clear h hb
  go_enter Try.func99, Try.ntmps99
  go_wp2_with fail
  refine (indexNZ2 v xs _ H.out).mono ?_
  rintro e w2 ⟨m, rfl, hm, rfl⟩
  cases b with
  | true =>
    have hm0 : decide (m ≥ 0) = false := by
      have : ¬ 0 ≤ m := fun h => hm.1 h (HB.out.1 rfl)
      simpa using this
    have hm1 : ¬ m ≥ 0 := by simpa using hm0
    clear hm
    go_wp2
    go_ret
    exact ⟨by first | rfl | simp [hm0], rfl⟩
  | false =>
    have hm0 : decide (m ≥ 0) = true := by
      have : 0 ≤ m := hm.2 fun h => absurd (HB.out.2 h) (by simp)
      simpa using this
    have hm1 : m ≥ 0 := by simpa using hm0
    clear hm
    go_wp2
    go_ret
    exact ⟨by first | rfl | simp [hm0], rfl⟩

set_option linter.unusedSimpArgs false in
set_option maxHeartbeats 4000000 in
set_option maxRecDepth 100000 in
theorem indexFV (v : Value) (xs : List Int) (w : World) (h : RowAt w v xs) :
    Calls Try.prog 147 #[v, .func (.func 100) #[] #[]] w fun e w' => e = .returned (.int .i64 (firstV xs)) ∧ w = w' := by
  obtain ⟨a1, c1, rfl, hn1, hc1⟩ := h
  have HC1 := Lib.hid hc1
  clear hc1
  go_enter Try.func147, Try.ntmps147
  go_wp2
  go_loop [8] (fun i => ∃ k : Nat, k ≤ xs.length ∧ i = .int .i64 k ∧ (∀ j, j < k → intN xs j = 0)) (fun i => xs.length - (intOf i).toNat)
  case atStart => exact ⟨0, Nat.zero_le _, rfl, fun j hj => absurd hj (Nat.not_lt_zero _)⟩
  case round =>
    obtain ⟨k, hk, rfl, hall⟩ := hrel
    have HA := Lib.hid hall
    clear hall
    by_cases hlt : k < xs.length
    · obtain ⟨b1, off1, rfl, hd1⟩ := HC1.out (by omega)
      have e1 := hd1 k hlt
      obtain ⟨x, hx⟩ : ∃ x, intN xs k = x := ⟨_, rfl⟩
      have e2 : w.cell? ⟨b1, off1 + k, none⟩ = some (.int .i64 x) := by rw [← hx]; exact e1
      have HX := Lib.hid hx
      have hlt2 : (k : Int) < (xs.length : Int) := by omega
      clear hd1 e1 hx
      by_cases hz : x = 0
      · have HZ := Lib.hid hz
        have hzb : (x != 0) = false := by rw [hz]; rfl
        clear hz
        go_wp2_with fail
        refine (isNonzeroB x _).mono ?_
        rintro e w2 ⟨rfl, rfl⟩
        go_wp2
        go_round
        case rel =>
          refine ⟨k + 1, by omega, by go_num, fun j hj => ?_⟩
          by_cases hjk : j = k
          · subst hjk; rw [HX.out]; exact HZ.out
          · exact HA.out j (by omega)
        case measure => simp [intOf]; omega
      · have hzb : (x != 0) = true := bne_iff_ne.2 hz
        have HF := Lib.hid (firstV_at hlt HA.out (by rw [HX.out]; exact hz))
        clear hz
        go_wp2_with fail
        refine (isNonzeroB x _).mono ?_
        rintro e w2 ⟨rfl, rfl⟩
        go_wp2
        go_ret
        exact ⟨by rw [HF.out]; rfl, rfl⟩
    · obtain rfl : k = xs.length := by omega
      have HN := Lib.hid (firstV_none HA.out)
      go_wp2
      go_ret
      exact ⟨by rw [HN.out]; rfl, rfl⟩

set_option linter.unusedSimpArgs false in
set_option maxHeartbeats 4000000 in
set_option maxRecDepth 100000 in
theorem beginOfC (v : Value) (xs : List Int) (w : World) (h : RowAt w v xs) :
    Calls Try.prog 143 #[v] w fun e w' => e = .returned (.int .i64 (firstV xs)) ∧ w = w' := by
  have H := Lib.hid h
  clear h
  go_enter Try.func143, Try.ntmps143
  go_wp2_with fail
  refine (indexFV v xs _ H.out).mono ?_
  rintro e w2 ⟨rfl, rfl⟩
  go_wp2
  go_ret
  exact ⟨rfl, rfl⟩

/-- Where a row begins, among the first u numbers. -/
def pivE (R : Nat → List Int) (u i : Nat) : Nat := (firstV ((R i).take u)).toNat
theorem Piv.first {n u : Nat} {R : Nat → List Int} {d : Nat} {c : Nat → Nat} (h : Piv n u R d c) (hd : d ≤ n) {i : Nat} (hi : i < d) (hl : u ≤ (R i).length) : firstV ((R i).take u) = c i := by
  have h1 := h.lt i hi
  refine firstV_at (by rw [List.length_take]; omega) (fun j hj => ?_) ?_
  · rw [intN_take (by omega)]; exact h.lead i hi j hj
  · rw [intN_take h1, h.one i hi i (by omega), if_pos rfl]; decide
theorem Piv.firstW {n u : Nat} {R : Nat → List Int} {d : Nat} {c : Nat → Nat} (h : Piv n u R d c) (hd : d ≤ n) {i : Nat} (hi : i < d) (hl : u ≤ (R i).length) : firstV (R i) = c i := by
  have h1 := h.lt i hi
  refine firstV_at (by omega) (fun j hj => h.lead i hi j hj) ?_
  rw [h.one i hi i (by omega), if_pos rfl]; decide
theorem Piv.congr {n u : Nat} {R : Nat → List Int} {d : Nat} {c c' : Nat → Nat} (h : Piv n u R d c) (he : ∀ i, i < d → c i = c' i) : Piv n u R d c' :=
  ⟨fun i hi => he i hi ▸ h.lt i hi, fun i hi => he i hi ▸ h.one i hi, fun i hi => he i hi ▸ h.lead i hi, h.rest⟩
theorem sysOk_dn {p : Int} {u : Nat} {rs : List (Int × List Int)} (h : SysOk p u rs) : (elimE p rs.length (row0 rs) u).2 ≤ rs.length := (elimE_good (l := u + 1 + rs.length) (by rcases h.1 with rfl | rfl <;> omega) (row0_good h) u).2
theorem sysOk_good {p : Int} {u : Nat} {rs : List (Int × List Int)} (h : SysOk p u rs) : GoodR p rs.length (u + 1 + rs.length) (elimE p rs.length (row0 rs) u).1 := (elimE_good (l := u + 1 + rs.length) (by rcases h.1 with rfl | rfl <;> omega) (row0_good h) u).1
theorem sysOk_piv {p : Int} {u : Nat} {rs : List (Int × List Int)} (h : SysOk p u rs) : Piv rs.length u (elimE p rs.length (row0 rs) u).1 (elimE p rs.length (row0 rs) u).2 (pivE (elimE p rs.length (row0 rs) u).1 u) := by
  obtain ⟨c, hc⟩ := elimE_piv (l := u + 1 + rs.length) h.1 (row0_good h) u (by omega)
  refine hc.congr fun i hi => ?_
  unfold pivE
  have hdn := sysOk_dn h
  rw [hc.first hdn hi (by rw [(sysOk_good h i (by omega)).1]; omega), Int.toNat_natCast]

/-- The values that the first k rows tell. -/
def solV (R : Nat → List Int) (c : Nat → Nat) (u : Nat) : Nat → List Int
  | 0 => List.replicate u 0
  | k + 1 => (solV R c u k).set (c k) (intN (R k) u)
theorem solV_len (R : Nat → List Int) (c : Nat → Nat) (u k : Nat) : (solV R c u k).length = u := by
  induction k with
  | zero => simp [solV]
  | succ k ih => simp [solV, ih]
theorem solV_zero {R : Nat → List Int} {c : Nat → Nat} {u q : Nat} : ∀ {k : Nat}, (∀ i, i < k → c i ≠ q) → intN (solV R c u k) q = 0 := by
  intro k
  induction k with
  | zero =>
    intro _
    by_cases h : q < u
    · rw [intN_at _ _ (by rw [solV_len]; exact h)]; simp [solV]
    · rw [intN_out (by rw [solV_len]; omega)]
  | succ k ih =>
    intro h
    have e := ih fun i hi => h i (by omega)
    have hk := h k (Nat.lt_succ_self k)
    show intN ((solV R c u k).set (c k) (intN (R k) u)) q = 0
    unfold intN at e ⊢
    rw [List.getD_eq_getElem?_getD, List.getElem?_set_ne hk, ← List.getD_eq_getElem?_getD]
    exact e
theorem solV_low {p : Int} {R : Nat → List Int} {c : Nat → Nat} {u : Nat} (hp : 0 < p) : ∀ {k : Nat}, (∀ i, i < k → 0 ≤ intN (R i) u ∧ intN (R i) u < p) → LowP p (solV R c u k) := by
  intro k
  induction k with
  | zero =>
    intro _ j hj
    rw [intN_at _ _ hj]
    simp [solV]; omega
  | succ k ih =>
    intro h j hj
    have e := ih (fun i hi => h i (by omega)) j (by rw [solV_len] at hj ⊢; exact hj)
    show 0 ≤ intN ((solV R c u k).set (c k) (intN (R k) u)) j ∧ intN ((solV R c u k).set (c k) (intN (R k) u)) j < p
    unfold intN at e ⊢
    rw [List.getD_eq_getElem?_getD, List.getElem?_set]
    by_cases hc : c k = j
    · rw [if_pos hc]
      split
      · exact h k (Nat.lt_succ_self k)
      · simp; omega
    · rw [if_neg hc, ← List.getD_eq_getElem?_getD]
      exact e
theorem dotK_nil {xs ys : List Int} : ∀ {m : Nat}, (∀ q, q < m → intN xs q = 0 ∨ intN ys q = 0) → dotK xs ys m = 0 := by
  intro m
  induction m with
  | zero => intro _; rfl
  | succ m ih =>
    intro h
    show dotK xs ys m + intN xs m * intN ys m = 0
    rw [ih fun q hq => h q (by omega)]
    rcases h m (Nat.lt_succ_self m) with e | e <;> rw [e] <;> simp
theorem Piv.others {n u : Nat} {R : Nat → List Int} {d : Nat} {c : Nat → Nat} (h : Piv n u R d c) (hd : d ≤ n) {k : Nat} (hk : k < d) : dotK ((R k).take u) (solV R c u k) u = 0 := dotK_nil fun q hq => by
  by_cases hz : ∀ i, i < k → c i ≠ q
  · exact .inr (solV_zero hz)
  · obtain ⟨i, hi⟩ := Classical.not_forall.1 hz
    obtain ⟨hik, hc⟩ := Classical.not_imp.1 hi
    have hcq : c i = q := Classical.not_not.1 hc
    refine .inl ?_
    rw [intN_take hq, ← hcq, h.one i (by omega) k (by omega), if_neg (by omega)]

end Go.Proofs.Ytnbgpeoceejolaa
