/-
  Elimination in the model: l07Reduce.
-/
import Derived.Test.YtnbgpeoceejolaaMkRows
import Derived.Deep.CutRange
namespace Go.Proofs.Ytnbgpeoceejolaa
open Go.RowKit

theorem RowSt.bel {w w' : World} {rb ro B : Nat} {vl vb : Value} {xs bs : List Int} {r : Int} (h : RowSt w rb ro B vl xs r vb bs) (hb : Below w.heap.size w w') : RowSt w' rb ro B vl xs r vb bs := by
  have hl : rb < w.heap.size := cell_block_lt h.left
  exact h.keep (fun o _ _ => World.cell?_of_block (hb.block rb hl)) ((World.frozen?_of_block (hb.block rb hl)).trans h.free) (fun g hg => hb.block g (h.ownL.lt g hg).2) (fun g hg => hb.block g (h.ownB.lt g hg).2)
theorem row0_parts {rs : List (Int × List Int)} {u i : Nat} (hl : (rowO rs i).length = u) : (row0 rs i).take u = rowO rs i ∧ intN (row0 rs i) u = arO rs i ∧ (row0 rs i).drop (u + 1) = unitL rs.length i ∧ (row0 rs i).length = u + 1 + rs.length := by
  subst hl
  unfold row0 unitL
  refine ⟨?_, ?_, ?_, by simp; omega⟩
  · rw [List.append_assoc, List.take_left' rfl]
  · rw [List.append_assoc]
    have := intN_append_right (x := rowO rs i) (y := [arO rs i] ++ (List.range rs.length).map fun j => if j = i then (1 : Int) else 0) (i := 0)
    rw [Nat.add_zero] at this
    rw [this]
    rfl
  · rw [List.drop_left' (by simp)]
theorem row0_good {p : Int} {u : Nat} {rs : List (Int × List Int)} (h : SysOk p u rs) : GoodR p rs.length (u + 1 + rs.length) (row0 rs) := fun i hi => by
  obtain ⟨hlen, hr, hx⟩ := h.2.2.2 i hi
  have hl : (rowO rs i).length = u := by omega
  obtain ⟨h1, h2, h3, h4⟩ := row0_parts (rs := rs) hl
  have hp : 2 ≤ p := by rcases h.1 with rfl | rfl <;> omega
  refine ⟨h4, fun j hj => ?_⟩
  rw [h4] at hj
  by_cases h5 : j < u
  · have e := intN_take (x := row0 rs i) h5
    rw [h1] at e
    rw [← e]
    have := hx j (by omega)
    unfold InP at this
    omega
  · by_cases h6 : j = u
    · subst h6
      rw [h2]
      unfold InP at hr
      omega
    · have e := intN_drop (x := row0 rs i) (u := u + 1) (i := j - (u + 1))
      rw [h3, show u + 1 + (j - (u + 1)) = j by omega] at e
      rw [← e]
      rw [intN_at _ _ (by simp [unitL]; omega)]
      simp only [unitL, List.getElem_map, List.getElem_range]
      split <;> omega
/-- The rows of a system are such. -/
theorem MkRows.rows {w : World} {B n u : Nat} {v : Value} {VL VB : Nat → Value} {rs : List (Int × List Int)} (h : MkRows w B v n n VL VB rs) (hn : 0 < n) (hrs : n = rs.length) (hl : ∀ i, i < n → (rowO rs i).length = u) :
    ∃ rb c, v = .slice (some ⟨rb, 0, none⟩) n c ∧ B ≤ rb ∧ rb < w.heap.size ∧ MRows w rb B n u VL VB (row0 rs) := by
  rcases h.outer.2 with ⟨_, h0⟩ | ⟨rb, cap, cur, rfl, hB, hg, h1, h2, h3, h4⟩
  · omega
  · refine ⟨rb, cap, rfl, hB, (Array.getElem?_eq_some_iff.1 hg).1, ⟨fun i hi => ?_, h.ap, fun o => frozen_of_row w rb o _ _ hg⟩⟩
    obtain ⟨e1, e2, e3, -⟩ := row0_parts (rs := rs) (hl i hi)
    rw [e1, e2, e3, ← hrs]
    obtain ⟨k1, k2, k3⟩ := flat3_at VL rs VB hi
    have hc : ∀ o x, (flat3 VL rs VB n)[o]? = some x → w.cell? ⟨rb, o, none⟩ = some x := fun o x hx => by
      rw [← h4, List.getElem?_take] at hx
      split at hx
      · rw [cell_of_row w rb o cur _ (0, 0) hg]; simpa using hx
      · cases hx
    refine ⟨hc _ _ k1, hc _ _ k2, hc _ _ k3, frozen_of_row w rb _ _ _ hg, h.left i hi, h.by_ i hi, fun e => h.out i hi rb (.inl e) (by simp [Value.ownBlock]), fun e => h.out i hi rb (.inr e) (by simp [Value.ownBlock]), h.own i hi⟩
/-- The number of an unknown in a row. -/
theorem MRows.at {w : World} {rb B n u l : Nat} {VL VB : Nat → Value} {R : Nat → List Int} (h : MRows w rb B n u VL VB R) {i c : Nat} (hi : i < n) (hc : c < u) (hl : (R i).length = l) (hul : u ≤ l) :
    ∃ g cap, VL i = .slice (some ⟨g, 0, none⟩) u cap ∧ w.cell? ⟨rb, i * 3, none⟩ = some (.slice (some ⟨g, 0, none⟩) u cap) ∧ w.cell? ⟨g, c, none⟩ = some (.int .i64 (intN (R i) c)) := by
  have hr := h.row i hi
  have hlen : ((R i).take u).length = u := by rw [List.length_take]; omega
  rcases hr.ownL.rowIn with ⟨_, h0⟩ | ⟨g, cap, hv, _, _, _, _⟩
  · rw [h0] at hlen; simp at hlen; omega
  · rw [hlen] at hv
    have h1 := hr.left
    have h2 := hr.ownL
    rw [hv] at h1 h2
    have h3 := h2.cell_of c (by omega)
    rw [intN_take hc] at h3
    exact ⟨g, cap, hv, h1, h3⟩

theorem clearK_skip (p : Int) (R : Nat → List Int) (d c : Nat) : clearK p R d c (d + 1) = clearK p R d c d := by
  funext k
  unfold clearK
  by_cases h : k = d
  · simp [h]
  · rw [if_neg h, if_neg h]
    have e : k < d + 1 ↔ k < d := by omega
    simp [e]
theorem clearK_succ {p : Int} {R : Nat → List Int} {d c i : Nat} (h : ¬ i = d) : (fun k => if k = i then rowSub p (intN (R i) c) (R i) (rowScale p (intN (R d) c) (R d)) else clearK p R d c i k) = clearK p R d c (i + 1) := by
  funext k
  by_cases hk : k = i
  · subst hk
    unfold clearK
    rw [if_pos rfl, if_neg h, if_pos (Nat.lt_succ_self _)]
  · rw [if_neg hk]
    unfold clearK
    have e : k < i + 1 ↔ k < i := by omega
    simp [e]
theorem clearK_zero {p : Int} {R : Nat → List Int} {d c i : Nat} (h : ¬ i = d) (h0 : intN (R i) c = 0) (hl : LowP p (R i)) : clearK p R d c (i + 1) = clearK p R d c i := by
  rw [← clearK_succ h]
  funext k
  by_cases hk : k = i
  · subst hk
    rw [if_pos rfl, h0, rowSub_zero hl]
    unfold clearK
    rw [if_neg h, if_neg (Nat.lt_irrefl _)]
  · rw [if_neg hk]

set_option linter.unusedSimpArgs false in
set_option maxHeartbeats 4000000 in
set_option maxRecDepth 100000 in
theorem l07ReduceC (sb so : Nat) (p : Int) (u : Nat) (rs : List (Int × List Int)) (w : World) (hs : SysAt w sb so p u rs) (hok : SysOk p u rs) :
    Calls Try.prog 81 #[.pointer (some ⟨sb, so, none⟩)] w fun e w' => ∃ a c, e = .returned (.tuple #[.slice a rs.length c, .int .i64 ((elimE p rs.length (row0 rs) u).2 : Int)]) ∧ (0 < rs.length → ∃ rb VL VB, a = some ⟨rb, 0, none⟩ ∧ w.heap.size ≤ rb ∧ rb < w'.heap.size ∧ MRows w' rb w.heap.size rs.length u VL VB (elimE p rs.length (row0 rs) u).1) ∧ Below w.heap.size w w' := by
  have HS := Lib.hid hs
  have HOK := Lib.hid hok
  have HP := Lib.hid hok.1
  have hp3 : 2 ≤ p ∧ p ≤ 3 := by rcases hok.1 with rfl | rfl <;> omega
  have hn24 := hok.2.2.1
  have hu12 : 1 ≤ u ∧ u ≤ 12 := by have := hok.2.1; unfold InP at this; omega
  have HGD := Lib.hid (row0_good hok)
  have HLEN : Hid (∀ i, i < rs.length → (rowO rs i).length = u) := Lib.hid fun i hi => by have := (hok.2.2.2 i hi).1; omega
  clear hs hok
  go_enter Try.func81, Try.ntmps81
  go_wp2_with fail
  refine (l07RowsC sb so p u rs _ HS.out HOK.out).mono ?_
  rintro e w1 ⟨a, c, VL0, VB0, rfl, hmk, hb1⟩
  have HB1 := Lib.hid hb1
  have HM1 : Hid (0 < rs.length → ∃ rb VL VB, a = some ⟨rb, 0, none⟩ ∧ w.heap.size ≤ rb ∧ rb < w1.heap.size ∧ MRows w1 rb w.heap.size rs.length u VL VB (row0 rs)) := Lib.hid fun hn => by
    obtain ⟨rb, c', hv, h1, h2, h3⟩ := hmk.rows hn rfl HLEN.out
    simp only [Value.slice.injEq] at hv
    exact ⟨rb, VL0, VB0, hv.1, h1, h2, h3⟩
  have du1 := (HS.out.below hb1).unknowns
  clear hmk hb1
  go_wp2
  clear du1
  go_loopw [5, 6] (fun vd vc wr => ∃ cc : Nat, cc ≤ u ∧ vc = .int .i64 cc ∧ vd = .int .i64 ((elimE p rs.length (row0 rs) cc).2 : Int) ∧ (0 < rs.length → ∃ rb VL VB, a = some ⟨rb, 0, none⟩ ∧ w.heap.size ≤ rb ∧ rb < wr.heap.size ∧ MRows wr rb w.heap.size rs.length u VL VB (elimE p rs.length (row0 rs) cc).1) ∧ Below w.heap.size w wr) (fun _ i _ => u - (intOf i).toNat)
  case atStart => exact ⟨0, Nat.zero_le _, rfl, rfl, HM1.out, HB1.out⟩
  case round =>
    obtain ⟨cc, hcc, rfl, rfl, hmr, hbl⟩ := hrel
    obtain ⟨⟨R, d⟩, hS⟩ : ∃ S : (Nat → List Int) × Nat, elimE p rs.length (row0 rs) cc = S := ⟨_, rfl⟩
    have hgd := elimE_good (by omega) HGD.out cc
    have hdc : (elimE p rs.length (row0 rs) cc).2 ≤ cc := elimE_le cc
    rw [hS] at hmr hgd hdc
    rw [hS]
    obtain ⟨hgd, hdn⟩ := hgd
    simp only at hmr hgd hdn hdc ⊢
    have HE := Lib.hid hS
    have HMR := Lib.hid hmr
    have HBL := Lib.hid hbl
    have HGR := Lib.hid hgd
    have HSW0 := Lib.hid (HS.out.below (hbl.mono (Nat.le_refl _)))
    have du := HSW0.out.unknowns
    have dp := HSW0.out.prime
    have HDU := Lib.hid du
    have HDP := Lib.hid dp
    clear hS hmr hbl hgd
    obtain ⟨wo, rfl⟩ : ∃ wo, wo = wr := ⟨_, rfl⟩
    by_cases hlt : cc < u
    · have hcu : (cc : Int) < (u : Int) := by omega
      clear dp
      go_wp2
      clear du
      go_loop [7] (fun v => ∃ m : Nat, d ≤ m ∧ m ≤ rs.length ∧ v = .int .i64 m ∧ ∀ j, d ≤ j → j < m → intN (R j) cc = 0) (fun v => rs.length - (intOf v).toNat)
      case atStart => exact ⟨d, Nat.le_refl _, hdn, rfl, fun j h1 h2 => by omega⟩
      case round =>
        obtain ⟨m, hdm, hmn, rfl, hzz⟩ := hrel
        have HZZ := Lib.hid hzz
        clear hzz
        by_cases hml : m < rs.length
        · have hmi : (m : Int) < (rs.length : Int) := by omega
          obtain ⟨rb, VL, VB, rfl, hrb0, hrb1, hM⟩ := HMR.out (by omega)
          obtain ⟨gm, cm, hvm, x0, x1⟩ := hM.at hml hlt (HGR.out m hml).1 (by omega)
          have hxx := (HGR.out m hml).2.any (by omega) cc
          have HM := Lib.hid hM
          obtain ⟨x, hx⟩ : ∃ x, intN (R m) cc = x := ⟨_, rfl⟩
          rw [hx] at x1 hxx
          have HX := Lib.hid hx
          clear hM hx
          by_cases hx0 : x = 0
          · subst hx0
            clear hxx
            go_wp2
            go_round
            case rel =>
              refine ⟨m + 1, by omega, by omega, by go_num, fun j h1 h2 => ?_⟩
              by_cases hjm : j = m
              · subst hjm; exact HX.out
              · exact HZZ.out j h1 (by omega)
            case measure => simp [intOf]; omega
          · have hxb : (x == 0) = false := beq_eq_false_iff_ne.2 hx0
            have hmnb : ((m : Int) == (rs.length : Int)) = false := beq_eq_false_iff_ne.2 (by omega)
            have HNE := Lib.hid hx0
            clear hx0
            have hd : d < rs.length := by omega
            obtain ⟨gd, ed, hvd, y0, -⟩ := HM.out.at hd hlt (HGR.out d hd).1 (by omega)
            have hrm := HM.out.row m hml
            have hrd := HM.out.row d hd
            obtain ⟨bm, em, hbm⟩ : ∃ bm em, VB m = .slice bm rs.length em := by
              obtain ⟨a', c', hv, _⟩ := hrm.ownB.rowAt
              rw [List.length_drop, (HGR.out m hml).1, show u + 1 + rs.length - (u + 1) = rs.length by omega] at hv
              exact ⟨a', c', hv⟩
            obtain ⟨bd, fd, hbd⟩ : ∃ bd fd, VB d = .slice bd rs.length fd := by
              obtain ⟨a', c', hv, _⟩ := hrd.ownB.rowAt
              rw [List.length_drop, (HGR.out d hd).1, show u + 1 + rs.length - (u + 1) = rs.length by omega] at hv
              exact ⟨a', c', hv⟩
            obtain ⟨qm, hqm⟩ : ∃ q, intN (R m) u = q := ⟨_, rfl⟩
            obtain ⟨qd, hqd⟩ : ∃ q, intN (R d) u = q := ⟨_, rfl⟩
            have y1 : wo.cell? ⟨rb, d * 3 + 1, none⟩ = some (.int .i64 qd) := by rw [← hqd]; exact hrd.right
            have y2 : wo.cell? ⟨rb, d * 3 + 2, none⟩ = some (.slice bd rs.length fd) := by rw [← hbd]; exact hrd.by_
            have HB1' : Hid (Below wo.heap.size wo (wo.alloc (.cells #[.slice (some ⟨gd, 0, none⟩) u ed, .int .i64 qd, .slice bd rs.length fd] 123))) := Lib.hid ((Below.refl _ _).alloc (Nat.le_refl _) _)
            have v0 : (wo.alloc (.cells #[.slice (some ⟨gd, 0, none⟩) u ed, .int .i64 qd, .slice bd rs.length fd] 123)).cell? ⟨rb, m * 3, none⟩ = some (.slice (some ⟨gm, 0, none⟩) u cm) := below_cell HB1'.out x0
            have v1 : (wo.alloc (.cells #[.slice (some ⟨gd, 0, none⟩) u ed, .int .i64 qd, .slice bd rs.length fd] 123)).cell? ⟨rb, m * 3 + 1, none⟩ = some (.int .i64 qm) := below_cell HB1'.out (by rw [← hqm]; exact hrm.right)
            have v2 : (wo.alloc (.cells #[.slice (some ⟨gd, 0, none⟩) u ed, .int .i64 qd, .slice bd rs.length fd] 123)).cell? ⟨rb, m * 3 + 2, none⟩ = some (.slice bm rs.length em) := below_cell HB1'.out (by rw [← hbm]; exact hrm.by_)
            have u0 := below_cell HB1'.out y0
            have u1 := below_cell HB1'.out y1
            have u2 := below_cell HB1'.out y2
            have HM1 := Lib.hid (HM.out.below HB1'.out hrb1)
            have f0 := HM1.out.frz (d * 3)
            have f1 := HM1.out.frz (d * 3 + 1)
            have f2 := HM1.out.frz (d * 3 + 2)
            have HBX1 : Hid (Box 123 (wo.alloc (.cells #[.slice (some ⟨gd, 0, none⟩) u ed, .int .i64 qd, .slice bd rs.length fd] 123)) wo.heap.size #[.slice (some ⟨gd, 0, none⟩) u ed, .int .i64 qd, .slice bd rs.length fd]) := Lib.hid (Box.new _ _ _)
            have HSW : Hid (MRows (set3 (set3 (wo.alloc (.cells #[.slice (some ⟨gd, 0, none⟩) u ed, .int .i64 qd, .slice bd rs.length fd] 123)) rb (d * 3) (.slice (some ⟨gm, 0, none⟩) u cm) (.int .i64 qm) (.slice bm rs.length em)) rb (m * 3) (.slice (some ⟨gd, 0, none⟩) u ed) (.int .i64 qd) (.slice bd rs.length fd)) rb w.heap.size rs.length u (fun i => VL (swapI d m i)) (fun i => VB (swapI d m i)) (swapF R d m)) := Lib.hid (by
              have h := HM.out.swap hd hml HB1'.out hrb1
              rw [hvm, hvd, hbm, hbd, hqm, hqd] at h
              exact h)
            have HBW3 : Hid (Below w.heap.size w (set3 (set3 (wo.alloc (.cells #[.slice (some ⟨gd, 0, none⟩) u ed, .int .i64 qd, .slice bd rs.length fd] 123)) rb (d * 3) (.slice (some ⟨gm, 0, none⟩) u cm) (.int .i64 qm) (.slice bm rs.length em)) rb (m * 3) (.slice (some ⟨gd, 0, none⟩) u ed) (.int .i64 qd) (.slice bd rs.length fd))) := Lib.hid (by
              have h0 : Below w.heap.size w (wo.alloc (.cells #[.slice (some ⟨gd, 0, none⟩) u ed, .int .i64 qd, .slice bd rs.length fd] 123)) := HBL.out.alloc HBL.out.size _
              unfold set3
              exact (((((h0.setCell (p := ⟨rb, _, none⟩) hrb0 _).setCell (p := ⟨rb, _, none⟩) hrb0 _).setCell (p := ⟨rb, _, none⟩) hrb0 _).setCell (p := ⟨rb, _, none⟩) hrb0 _).setCell (p := ⟨rb, _, none⟩) hrb0 _).setCell (p := ⟨rb, _, none⟩) hrb0 _)
            have HRL3 : Hid (rb < (set3 (set3 (wo.alloc (.cells #[.slice (some ⟨gd, 0, none⟩) u ed, .int .i64 qd, .slice bd rs.length fd] 123)) rb (d * 3) (.slice (some ⟨gm, 0, none⟩) u cm) (.int .i64 qm) (.slice bm rs.length em)) rb (m * 3) (.slice (some ⟨gd, 0, none⟩) u ed) (.int .i64 qd) (.slice bd rs.length fd)).heap.size) := Lib.hid (by unfold set3; simp [World.setCell]; omega)
            have HVD : Hid (VL (swapI d m d) = .slice (some ⟨gm, 0, none⟩) u cm) := Lib.hid (by rw [show swapI d m d = m by unfold swapI; simp]; exact hvm)
            have HRD : Hid (swapF R d m d = R m) := Lib.hid (by unfold swapF; simp)
            have HGS := Lib.hid (HGR.out.swap hd hml)
            have HRM := Lib.hid hrb0
            clear hrm hrd hbm hbd hvm hvd hqm hqd
            go_upto_region 9 with fail
            go_upto_region 10 with fail
            go_upto_region 11 with fail
            clear x0 x1 y0 y1 y2
            obtain ⟨w1', hw1⟩ : ∃ w1', (wo.alloc (.cells #[.slice (some ⟨gd, 0, none⟩) u ed, .int .i64 qd, .slice bd rs.length fd] 123)) = w1' := ⟨_, rfl⟩
            rw [hw1] at v0 v1 v2 u0 u1 u2 f0 f1 f2 HM1 HBX1 HSW HBW3 HRL3 HB1'
            rw [hw1]
            clear hw1
            go_upto_region 12 with fail
            obtain ⟨w2, hw2⟩ : ∃ w2, (set3 w1' rb (d * 3) (.slice (some ⟨gm, 0, none⟩) u cm) (.int .i64 qm) (.slice bm rs.length em)) = w2 := ⟨_, rfl⟩
            have HSW2 : Hid (MRows (set3 w2 rb (m * 3) (.slice (some ⟨gd, 0, none⟩) u ed) (.int .i64 qd) (.slice bd rs.length fd)) rb w.heap.size rs.length u (fun i => VL (swapI d m i)) (fun i => VB (swapI d m i)) (swapF R d m)) := Lib.hid (by rw [← hw2]; exact HSW.out)
            have HBW4 : Hid (Below w.heap.size w (set3 w2 rb (m * 3) (.slice (some ⟨gd, 0, none⟩) u ed) (.int .i64 qd) (.slice bd rs.length fd))) := Lib.hid (by rw [← hw2]; exact HBW3.out)
            have HRL4 : Hid (rb < (set3 w2 rb (m * 3) (.slice (some ⟨gd, 0, none⟩) u ed) (.int .i64 qd) (.slice bd rs.length fd)).heap.size) := Lib.hid (by rw [← hw2]; exact HRL3.out)
            have hcm : ∀ j, j < 3 → ∃ v, w2.cell? ⟨rb, m * 3 + j, none⟩ = some v := fun j hj => by
              rw [← hw2]
              by_cases hmd : m = d
              · subst hmd
                exact ⟨_, set3_same _ rb (m * 3) _ _ _ u0 u1 u2 j hj⟩
              · have e := set3_other w1' rb (d * 3) (.slice (some ⟨gm, 0, none⟩) u cm) (.int .i64 qm) (.slice bm rs.length em) (m * 3 + j) (by omega)
                obtain rfl | rfl | rfl : j = 0 ∨ j = 1 ∨ j = 2 := by omega
                · exact ⟨_, e.trans v0⟩
                · exact ⟨_, e.trans v1⟩
                · exact ⟨_, e.trans v2⟩
            obtain ⟨k0, p0⟩ := hcm 0 (by omega)
            obtain ⟨k1, p1⟩ := hcm 1 (by omega)
            obtain ⟨k2, p2⟩ := hcm 2 (by omega)
            have p0' : w2.cell? ⟨rb, m * 3, none⟩ = some k0 := p0
            have hfz : ∀ o, w2.frozen? ⟨rb, o, none⟩ = false := fun o => by rw [← hw2, set3_frz]; exact HM1.out.frz o
            have f3 := hfz (m * 3)
            have f4 := hfz (m * 3 + 1)
            have f5 := hfz (m * 3 + 2)
            have hbx2 : Box 123 w2 wo.heap.size #[.slice (some ⟨gd, 0, none⟩) u ed, .int .i64 qd, .slice bd rs.length fd] := by
              rw [← hw2]
              exact HBX1.out.same (set3_heap _ _ _ _ _ _ _ (by omega))
            have z0 : w2.cell? ⟨wo.heap.size, 0, none⟩ = some (.slice (some ⟨gd, 0, none⟩) u ed) := hbx2.c 0 rfl
            have z1 : w2.cell? ⟨wo.heap.size, 1, none⟩ = some (.int .i64 qd) := hbx2.c 1 rfl
            have z2 : w2.cell? ⟨wo.heap.size, 2, none⟩ = some (.slice bd rs.length fd) := hbx2.c 2 rfl
            have hw2' : (((w1'.setCell ⟨rb, d * 3, none⟩ (.slice (some ⟨gm, 0, none⟩) u cm)).setCell ⟨rb, d * 3 + 1, none⟩ (.int .i64 qm)).setCell ⟨rb, d * 3 + 2, none⟩ (.slice bm rs.length em)) = w2 := hw2
            rw [hw2']
            clear hw2 hw2' hcm p0 hfz hbx2 u0 u1 u2 v0 v1 v2 f0 f1 f2 HSW HBW3 HRL3
            go_upto_region 13 with fail
            obtain ⟨w3, hw3⟩ : ∃ w3, set3 w2 rb (m * 3) (.slice (some ⟨gd, 0, none⟩) u ed) (.int .i64 qd) (.slice bd rs.length fd) = w3 := ⟨_, rfl⟩
            rw [hw3] at HSW2 HBW4 HRL4
            have hw3' : (((w2.setCell ⟨rb, m * 3, none⟩ (.slice (some ⟨gd, 0, none⟩) u ed)).setCell ⟨rb, m * 3 + 1, none⟩ (.int .i64 qd)).setCell ⟨rb, m * 3 + 2, none⟩ (.slice bd rs.length fd)) = w3 := hw3
            rw [hw3']
            clear hw3 hw3' p0' p1 p2 f3 f4 f5 z0 z1 z2
            obtain ⟨R2, hR2⟩ : ∃ R2, swapF R d m = R2 := ⟨_, rfl⟩
            obtain ⟨VL2, hVL2⟩ : ∃ V, (fun i => VL (swapI d m i)) = V := ⟨_, rfl⟩
            obtain ⟨VB2, hVB2⟩ : ∃ V, (fun i => VB (swapI d m i)) = V := ⟨_, rfl⟩
            have HR2 := Lib.hid hR2
            rw [hR2, hVL2, hVB2] at HSW2
            rw [hR2] at HRD HGS
            clear hR2 hVL2 hVB2 HVD
            have HXD : Hid (intN (R2 d) cc = x) := Lib.hid (by rw [HRD.out]; exact HX.out)
            obtain ⟨gs, cs, hvs, x0, x1⟩ := HSW2.out.at hd hlt (HGS.out d hd).1 (by omega)
            rw [HXD.out] at x1
            have x2 := (HS.out.below HBW4.out).prime
            have hld := (HGS.out d hd).1
            have HT : Hid (0 ≤ x ∧ x ≤ 2) := Lib.hid (by omega)
            have hlow := (HGS.out d hd).2
            have HL1 := Lib.hid ((hlow.take u).low3 hp3.2)
            have HL2 := Lib.hid ((hlow.drop (u + 1)).low3 hp3.2)
            have hq0 := hlow.any (by omega) u
            have HQ0 : Hid (0 ≤ intN (R2 d) u ∧ intN (R2 d) u ≤ 2) := Lib.hid (by omega)
            have HN1 : Hid (((R2 d).take u).length ≤ 1000) := Lib.hid (by rw [List.length_take]; omega)
            have HN2 : Hid (((R2 d).drop (u + 1)).length ≤ 1000) := Lib.hid (by rw [List.length_drop]; omega)
            have HLD := Lib.hid hld
            clear hvs hlow hq0 hld hxx
            refine wp_region_noPanic ?_
            refine wp_region_late (S := (fun w' => w'.cell? ⟨rb, d * 3, none⟩ = some (.slice (some ⟨gs, 0, none⟩) u cs) ∧ w'.cell? ⟨gs, cc, none⟩ = some (.int .i64 x) ∧ w'.cell? ⟨sb, so, none⟩ = some (.int .i64 p) ∧ Below w3.heap.size w3 w')) [15] (by kernel_rfl) ?_ (fun hHeld => ?_)
            · exact ⟨x0, x1, x2, (QW.refl _).drew.below _⟩
            refine wpAnyL_free (i := 0) (v := ?_) (some 57) rfl rfl (by kernel_rfl) (by kernel_rfl) (by kernel_rfl) (by decide) (fun _ _ _ h => h) (Or.inl ⟨by rfl, ?_⟩) (fun h0 => by assumption) ?_
            rotate_left
            · intro wS
              go_simp
              try with_reducible rfl
            try simp only [Act.put, List.setIfInBounds_toArray, List.set_cons_zero, List.set_cons_succ]
            refine wpAnyL_free (i := 1) (v := ?_) (some 58) rfl rfl (by kernel_rfl) (by kernel_rfl) (by kernel_rfl) (by decide) (fun _ _ _ h => h) (Or.inl ⟨by rfl, ?_⟩) (fun h0 => by assumption) ?_
            rotate_left
            · intro wS
              go_simp
              try with_reducible rfl
            try simp only [Act.put, List.setIfInBounds_toArray, List.set_cons_zero, List.set_cons_succ]
            refine wpAnyL_free (i := 2) (v := ?_) (some 59) rfl rfl (by kernel_rfl) (by kernel_rfl) (by kernel_rfl) (by decide) (fun _ _ _ h => h) (Or.inl ⟨by rfl, ?_⟩) (fun h0 => by assumption) ?_
            rotate_left
            · intro wS
              go_simp
              try with_reducible rfl
            try simp only [Act.put, List.setIfInBounds_toArray, List.set_cons_zero, List.set_cons_succ]
            refine wpAnyL_free (i := 3) (v := ?_) (some 60) rfl rfl (by kernel_rfl) (by kernel_rfl) (by kernel_rfl) (by decide) (fun _ _ _ h => h) (Or.inl ⟨by rfl, ?_⟩) (fun h0 => by assumption) ?_
            rotate_left
            · intro wS
              go_simp
              try with_reducible rfl
            try simp only [Act.put, List.setIfInBounds_toArray, List.set_cons_zero, List.set_cons_succ]
            refine wpAnyL_free (i := 4) (v := ?_) (some 61) rfl rfl (by kernel_rfl) (by kernel_rfl) (by kernel_rfl) (by decide) (fun _ _ _ h => h) (Or.inl ⟨by rfl, ?_⟩) (fun h0 => by assumption) ?_
            rotate_left
            · intro wS
              go_simp
              try with_reducible rfl
            try simp only [Act.put, List.setIfInBounds_toArray, List.set_cons_zero, List.set_cons_succ]
            refine wpAnyL_free (i := 5) (v := ?_) (some 62) rfl rfl (by kernel_rfl) (by kernel_rfl) (by kernel_rfl) (by decide) (fun _ _ _ h => h) (Or.inl ⟨by rfl, ?_⟩) (fun h0 => by assumption) ?_
            rotate_left
            · intro wS
              go_simp
              try with_reducible rfl
            try simp only [Act.put, List.setIfInBounds_toArray, List.set_cons_zero, List.set_cons_succ]
            refine wpAnyL_free (i := 6) (v := ?_) (some 63) rfl rfl (by kernel_rfl) (by kernel_rfl) (by kernel_rfl) (by decide) (fun _ _ _ h => h) (Or.inl ⟨by rfl, ?_⟩) (fun h0 => by assumption) ?_
            rotate_left
            · intro wS
              go_simp
              try with_reducible rfl
            try simp only [Act.put, List.setIfInBounds_toArray, List.set_cons_zero, List.set_cons_succ]
            refine wpAnyL_take (i := 7) (v := ?_) (some 64) rfl rfl (by kernel_rfl) (by kernel_rfl) (by kernel_rfl) (by kernel_rfl) (by kernel_rfl) (fun _ _ _ h => h) (Or.inl ⟨by rfl, ?_⟩) (by assumption) ?_
            rotate_left
            · intro wS hSw
              try dsimp only at hSw
              go_simp
              try with_reducible rfl
            try simp only [Act.put, List.setIfInBounds_toArray, List.set_cons_zero, List.set_cons_succ]
            refine wpAnyL_free (i := 8) (v := ?_) (some 65) rfl rfl (by kernel_rfl) (by kernel_rfl) (by kernel_rfl) (by decide) (fun _ _ _ h => h) (Or.inl ⟨by rfl, ?_⟩) (fun h0 => by assumption) ?_
            rotate_left
            · intro wS
              go_simp
              try with_reducible rfl
            try simp only [Act.put, List.setIfInBounds_toArray, List.set_cons_zero, List.set_cons_succ]
            refine wpAnyL_free (i := 9) (v := ?_) (some 66) rfl rfl (by kernel_rfl) (by kernel_rfl) (by kernel_rfl) (by decide) (fun _ _ _ h => h) (Or.inl ⟨by rfl, ?_⟩) (fun h0 => by assumption) ?_
            rotate_left
            · intro wS
              go_simp
              try with_reducible rfl
            try simp only [Act.put, List.setIfInBounds_toArray, List.set_cons_zero, List.set_cons_succ]
            refine wpAnyL_take (i := 10) (v := ?_) (some 67) rfl rfl (by kernel_rfl) (by kernel_rfl) (by kernel_rfl) (by kernel_rfl) (by kernel_rfl) (fun _ _ _ h => h) (Or.inl ⟨by rfl, ?_⟩) (by assumption) ?_
            rotate_left
            · intro wS hSw
              try dsimp only at hSw
              go_simp
              try with_reducible rfl
            try simp only [Act.put, List.setIfInBounds_toArray, List.set_cons_zero, List.set_cons_succ]
            refine wpAnyL_free (i := 11) (v := ?_) (some 68) rfl rfl (by kernel_rfl) (by kernel_rfl) (by kernel_rfl) (by decide) (fun _ _ _ h => h) (Or.inl ⟨by rfl, ?_⟩) (fun h0 => by assumption) ?_
            rotate_left
            · intro wS
              go_simp
              try with_reducible rfl
            try simp only [Act.put, List.setIfInBounds_toArray, List.set_cons_zero, List.set_cons_succ]
            refine wpAnyL_free (i := 12) (v := ?_) (some 69) rfl rfl (by kernel_rfl) (by kernel_rfl) (by kernel_rfl) (by decide) (fun _ _ _ h => h) (Or.inl ⟨by rfl, ?_⟩) (fun h0 => by assumption) ?_
            rotate_left
            · intro wS
              go_simp
              try with_reducible rfl
            try simp only [Act.put, List.setIfInBounds_toArray, List.set_cons_zero, List.set_cons_succ]
            refine wpAnyL_free (i := 13) (v := ?_) (some 70) rfl rfl (by kernel_rfl) (by kernel_rfl) (by kernel_rfl) (by decide) (fun _ _ _ h => h) (Or.inl ⟨by rfl, ?_⟩) (fun h0 => by assumption) ?_
            rotate_left
            · intro wS
              go_simp
              try with_reducible rfl
            try simp only [Act.put, List.setIfInBounds_toArray, List.set_cons_zero, List.set_cons_succ]
            refine wpAnyL_take (i := 14) (v := ?_) (some 71) rfl rfl (by kernel_rfl) (by kernel_rfl) (by kernel_rfl) (by kernel_rfl) (by kernel_rfl) (fun _ _ _ h => h) (Or.inl ⟨by rfl, ?_⟩) (by assumption) ?_
            rotate_left
            · intro wS hSw
              try dsimp only at hSw
              go_simp
              try with_reducible rfl
            try simp only [Act.put, List.setIfInBounds_toArray, List.set_cons_zero, List.set_cons_succ]
            refine wpAnyL_ready (rs := [15]) (by kernel_rfl) (by simp) ?_
            refine AllReadyL.last rfl (by kernel_rfl) (fun K hK => ?_) AllReadyL.nil
            go_simp; go_at_call 83; refine (scaleC rb (d * 3) w.heap.size p x _ _ _ _ _ _ ((HSW2.out.row d hd).bel hHeld.2.2.2) HP.out HT.out HL1.out HL2.out HQ0.out HRM.out HN1.out HN2.out).mono ?_; rintro e w4 ⟨rfl, hr4, hb4, hk4⟩
            refine hK.out _ _ ?_
            clear hK K
            try simp only [Act.put, List.setIfInBounds_toArray, List.set_cons_zero, List.set_cons_succ]
            refine wpAnyL_done (by kernel_rfl) ?_ _
            refine NoPanic.normal ?_
            have HM4 : Hid (MRows w4 rb w.heap.size rs.length u VL2 VB2 (clearK p R2 d cc 0)) := Lib.hid (by
              have h := (HSW2.out.below hHeld.2.2.2 HRL4.out).upd hd hk4 (x := rowScale p x (R2 d)) (by
                rw [rowScale_take, rowScale_at (by rw [HLD.out]; omega), rowScale_drop]
                exact hr4)
              have e : (fun k => if k = d then rowScale p x (R2 d) else R2 k) = clearK p R2 d cc 0 := by
                funext k
                unfold clearK
                rw [HXD.out]
                by_cases hkd : k = d
                · simp [hkd]
                · simp [hkd]
              rw [e] at h
              exact h)
            have HB4 : Hid (Below w.heap.size w w4) := Lib.hid ((HBW4.out.trans (hHeld.2.2.2.mono HBW4.out.size)).trans hb4)
            have HRL5 : Hid (rb < w4.heap.size) := Lib.hid (Nat.lt_of_lt_of_le HRL4.out hk4.rest.1)
            have HEQ2 : Hid (elimE p rs.length (row0 rs) (cc + 1) = (clearK p R2 d cc rs.length, d + 1)) := Lib.hid (by
              show stepE p rs.length cc (elimE p rs.length (row0 rs) cc) = _
              rw [HE.out]
              unfold stepE
              have hf := findE_eq rs.length d m hdm hmn (by omega) HZZ.out (fun _ => by rw [HX.out]; exact HNE.out)
              rw [if_neg (by simp only [hf]; omega)]
              simp only [hf, HR2.out])
            clear hHeld hr4 hb4 hk4 x0 x1 x2 HL1 HL2 HQ0 HN1 HN2 HSW2 HBW4 HRL4
            go_wp2
            go_loopw [9] (fun v wr => ∃ i : Nat, i ≤ rs.length ∧ v = .int .i64 i ∧ MRows wr rb w.heap.size rs.length u VL2 VB2 (clearK p R2 d cc i) ∧ rb < wr.heap.size ∧ Below w.heap.size w wr) (fun v _ => rs.length - (intOf v).toNat)
            case atStart => exact ⟨0, Nat.zero_le _, rfl, HM4.out, HRL5.out, HB4.out⟩
            case round =>
              obtain ⟨i, hin, rfl, hmi2, hrl, hbl⟩ := hrel
              have HMI := Lib.hid hmi2
              have HRLI := Lib.hid hrl
              have HBLI := Lib.hid hbl
              have HGC := Lib.hid (HGS.out.clear (c := cc) (m := i) (by omega) hd)
              clear hmi2 hrl hbl
              by_cases hil : i < rs.length
              · have hii : (i : Int) < (rs.length : Int) := by omega
                by_cases hid : i = d
                · have hidb : ((i : Int) != (d : Int)) = false := by rw [hid]; simp
                  have HCK : Hid (clearK p R2 d cc (i + 1) = clearK p R2 d cc i) := Lib.hid (by rw [hid]; exact clearK_skip _ _ _ _)
                  clear hid
                  go_wp2
                  go_roundw
                  case rel => exact ⟨i + 1, by omega, by go_num, by rw [HCK.out]; exact HMI.out, HRLI.out, HBLI.out⟩
                  case measure => simp [intOf]; omega
                · have hidb : ((i : Int) != (d : Int)) = true := bne_iff_ne.2 (by omega)
                  obtain ⟨gi, ci, hvi, a0, a1⟩ := HMI.out.at hil hlt (HGC.out i hil).1 (by omega)
                  have HCI : Hid (clearK p R2 d cc i i = R2 i) := Lib.hid (by unfold clearK; rw [if_neg hid, if_neg (Nat.lt_irrefl _)])
                  rw [HCI.out] at a1
                  obtain ⟨t, ht⟩ : ∃ t, intN (R2 i) cc = t := ⟨_, rfl⟩
                  rw [ht] at a1
                  have HTT := Lib.hid ht
                  have hlow := (HGS.out i hil).2
                  have htb := hlow.any (by omega) cc
                  rw [ht] at htb
                  have HID := Lib.hid hid
                  clear ht hvi hid
                  by_cases ht0 : t = 0
                  · have htn : (t != 0) = false := by rw [ht0]; rfl
                    have HCK : Hid (clearK p R2 d cc (i + 1) = clearK p R2 d cc i) := Lib.hid (clearK_zero HID.out (by rw [HTT.out]; exact ht0) hlow)
                    clear ht0 hlow htb
                    go_wp2
                    go_roundw
                    case rel => exact ⟨i + 1, by omega, by go_num, by rw [HCK.out]; exact HMI.out, HRLI.out, HBLI.out⟩
                    case measure => simp [intOf]; omega
                  · have htn : (t != 0) = true := bne_iff_ne.2 ht0
                    have HT3 : Hid (0 ≤ t ∧ t ≤ 3) := Lib.hid (by omega)
                    have a2 := (HS.out.below HBLI.out).prime
                    have hli := (HGC.out i hil).1
                    have hld2 := (HGC.out d hd).1
                    have hlc := (HGC.out i hil).2
                    have hlcd := (HGC.out d hd).2
                    have hqi := hlc.any (by omega) u
                    have hqd2 := hlcd.any (by omega) u
                    have HL1 := Lib.hid ((hlc.take u).low3 hp3.2)
                    have HL2 := Lib.hid ((hlc.drop (u + 1)).low3 hp3.2)
                    have HL3 := Lib.hid ((hlcd.take u).low3 hp3.2)
                    have HL4 := Lib.hid ((hlcd.drop (u + 1)).low3 hp3.2)
                    have HQ1 : Hid (0 ≤ intN (clearK p R2 d cc i i) u ∧ intN (clearK p R2 d cc i i) u ≤ 2) := Lib.hid (by omega)
                    have HQ2 : Hid (0 ≤ intN (clearK p R2 d cc i d) u ∧ intN (clearK p R2 d cc i d) u ≤ 2) := Lib.hid (by omega)
                    have HE1 : Hid (((clearK p R2 d cc i i).take u).length = ((clearK p R2 d cc i d).take u).length) := Lib.hid (by rw [List.length_take, List.length_take, hli, hld2])
                    have HE2 : Hid (((clearK p R2 d cc i i).drop (u + 1)).length = ((clearK p R2 d cc i d).drop (u + 1)).length) := Lib.hid (by rw [List.length_drop, List.length_drop, hli, hld2])
                    have HN1 : Hid (((clearK p R2 d cc i i).take u).length ≤ 1000) := Lib.hid (by rw [List.length_take]; omega)
                    have HN2 : Hid (((clearK p R2 d cc i i).drop (u + 1)).length ≤ 1000) := Lib.hid (by rw [List.length_drop]; omega)
                    have HLI := Lib.hid hli
                    clear ht0 hlow htb hli hld2 hlc hlcd hqi hqd2
                    go_wp2
                    refine wp_region_noPanic ?_
                    refine wp_region_late (S := (fun w' => w'.cell? ⟨rb, i * 3, none⟩ = some (.slice (some ⟨gi, 0, none⟩) u ci) ∧ w'.cell? ⟨gi, cc, none⟩ = some (.int .i64 t) ∧ w'.cell? ⟨sb, so, none⟩ = some (.int .i64 p) ∧ Below wr.heap.size wr w')) [18] (by kernel_rfl) ?_ (fun hHeld => ?_)
                    · exact ⟨a0, a1, a2, (QW.refl _).drew.below _⟩
                    refine wpAnyL_free (i := 0) (v := ?_) (some 93) rfl rfl (by kernel_rfl) (by kernel_rfl) (by kernel_rfl) (by decide) (fun _ _ _ h => h) (Or.inl ⟨by rfl, ?_⟩) (fun h0 => by assumption) ?_
                    rotate_left
                    · intro wS
                      go_simp
                      try with_reducible rfl
                    try simp only [Act.put, List.setIfInBounds_toArray, List.set_cons_zero, List.set_cons_succ]
                    refine wpAnyL_free (i := 1) (v := ?_) (some 94) rfl rfl (by kernel_rfl) (by kernel_rfl) (by kernel_rfl) (by decide) (fun _ _ _ h => h) (Or.inl ⟨by rfl, ?_⟩) (fun h0 => by assumption) ?_
                    rotate_left
                    · intro wS
                      go_simp
                      try with_reducible rfl
                    try simp only [Act.put, List.setIfInBounds_toArray, List.set_cons_zero, List.set_cons_succ]
                    refine wpAnyL_free (i := 2) (v := ?_) (some 95) rfl rfl (by kernel_rfl) (by kernel_rfl) (by kernel_rfl) (by decide) (fun _ _ _ h => h) (Or.inl ⟨by rfl, ?_⟩) (fun h0 => by assumption) ?_
                    rotate_left
                    · intro wS
                      go_simp
                      try with_reducible rfl
                    try simp only [Act.put, List.setIfInBounds_toArray, List.set_cons_zero, List.set_cons_succ]
                    refine wpAnyL_free (i := 3) (v := ?_) (some 96) rfl rfl (by kernel_rfl) (by kernel_rfl) (by kernel_rfl) (by decide) (fun _ _ _ h => h) (Or.inl ⟨by rfl, ?_⟩) (fun h0 => by assumption) ?_
                    rotate_left
                    · intro wS
                      go_simp
                      try with_reducible rfl
                    try simp only [Act.put, List.setIfInBounds_toArray, List.set_cons_zero, List.set_cons_succ]
                    refine wpAnyL_free (i := 4) (v := ?_) (some 97) rfl rfl (by kernel_rfl) (by kernel_rfl) (by kernel_rfl) (by decide) (fun _ _ _ h => h) (Or.inl ⟨by rfl, ?_⟩) (fun h0 => by assumption) ?_
                    rotate_left
                    · intro wS
                      go_simp
                      try with_reducible rfl
                    try simp only [Act.put, List.setIfInBounds_toArray, List.set_cons_zero, List.set_cons_succ]
                    refine wpAnyL_free (i := 5) (v := ?_) (some 98) rfl rfl (by kernel_rfl) (by kernel_rfl) (by kernel_rfl) (by decide) (fun _ _ _ h => h) (Or.inl ⟨by rfl, ?_⟩) (fun h0 => by assumption) ?_
                    rotate_left
                    · intro wS
                      go_simp
                      try with_reducible rfl
                    try simp only [Act.put, List.setIfInBounds_toArray, List.set_cons_zero, List.set_cons_succ]
                    refine wpAnyL_free (i := 6) (v := ?_) (some 99) rfl rfl (by kernel_rfl) (by kernel_rfl) (by kernel_rfl) (by decide) (fun _ _ _ h => h) (Or.inl ⟨by rfl, ?_⟩) (fun h0 => by assumption) ?_
                    rotate_left
                    · intro wS
                      go_simp
                      try with_reducible rfl
                    try simp only [Act.put, List.setIfInBounds_toArray, List.set_cons_zero, List.set_cons_succ]
                    refine wpAnyL_free (i := 7) (v := ?_) (some 100) rfl rfl (by kernel_rfl) (by kernel_rfl) (by kernel_rfl) (by decide) (fun _ _ _ h => h) (Or.inl ⟨by rfl, ?_⟩) (fun h0 => by assumption) ?_
                    rotate_left
                    · intro wS
                      go_simp
                      try with_reducible rfl
                    try simp only [Act.put, List.setIfInBounds_toArray, List.set_cons_zero, List.set_cons_succ]
                    refine wpAnyL_free (i := 8) (v := ?_) (some 101) rfl rfl (by kernel_rfl) (by kernel_rfl) (by kernel_rfl) (by decide) (fun _ _ _ h => h) (Or.inl ⟨by rfl, ?_⟩) (fun h0 => by assumption) ?_
                    rotate_left
                    · intro wS
                      go_simp
                      try with_reducible rfl
                    try simp only [Act.put, List.setIfInBounds_toArray, List.set_cons_zero, List.set_cons_succ]
                    refine wpAnyL_free (i := 9) (v := ?_) (some 102) rfl rfl (by kernel_rfl) (by kernel_rfl) (by kernel_rfl) (by decide) (fun _ _ _ h => h) (Or.inl ⟨by rfl, ?_⟩) (fun h0 => by assumption) ?_
                    rotate_left
                    · intro wS
                      go_simp
                      try with_reducible rfl
                    try simp only [Act.put, List.setIfInBounds_toArray, List.set_cons_zero, List.set_cons_succ]
                    refine wpAnyL_take (i := 10) (v := ?_) (some 103) rfl rfl (by kernel_rfl) (by kernel_rfl) (by kernel_rfl) (by kernel_rfl) (by kernel_rfl) (fun _ _ _ h => h) (Or.inl ⟨by rfl, ?_⟩) (by assumption) ?_
                    rotate_left
                    · intro wS hSw
                      try dsimp only at hSw
                      go_simp
                      try with_reducible rfl
                    try simp only [Act.put, List.setIfInBounds_toArray, List.set_cons_zero, List.set_cons_succ]
                    refine wpAnyL_free (i := 11) (v := ?_) (some 104) rfl rfl (by kernel_rfl) (by kernel_rfl) (by kernel_rfl) (by decide) (fun _ _ _ h => h) (Or.inl ⟨by rfl, ?_⟩) (fun h0 => by assumption) ?_
                    rotate_left
                    · intro wS
                      go_simp
                      try with_reducible rfl
                    try simp only [Act.put, List.setIfInBounds_toArray, List.set_cons_zero, List.set_cons_succ]
                    refine wpAnyL_free (i := 12) (v := ?_) (some 105) rfl rfl (by kernel_rfl) (by kernel_rfl) (by kernel_rfl) (by decide) (fun _ _ _ h => h) (Or.inl ⟨by rfl, ?_⟩) (fun h0 => by assumption) ?_
                    rotate_left
                    · intro wS
                      go_simp
                      try with_reducible rfl
                    try simp only [Act.put, List.setIfInBounds_toArray, List.set_cons_zero, List.set_cons_succ]
                    refine wpAnyL_take (i := 13) (v := ?_) (some 106) rfl rfl (by kernel_rfl) (by kernel_rfl) (by kernel_rfl) (by kernel_rfl) (by kernel_rfl) (fun _ _ _ h => h) (Or.inl ⟨by rfl, ?_⟩) (by assumption) ?_
                    rotate_left
                    · intro wS hSw
                      try dsimp only at hSw
                      go_simp
                      try with_reducible rfl
                    try simp only [Act.put, List.setIfInBounds_toArray, List.set_cons_zero, List.set_cons_succ]
                    refine wpAnyL_free (i := 14) (v := ?_) (some 107) rfl rfl (by kernel_rfl) (by kernel_rfl) (by kernel_rfl) (by decide) (fun _ _ _ h => h) (Or.inl ⟨by rfl, ?_⟩) (fun h0 => by assumption) ?_
                    rotate_left
                    · intro wS
                      go_simp
                      try with_reducible rfl
                    try simp only [Act.put, List.setIfInBounds_toArray, List.set_cons_zero, List.set_cons_succ]
                    refine wpAnyL_free (i := 15) (v := ?_) (some 108) rfl rfl (by kernel_rfl) (by kernel_rfl) (by kernel_rfl) (by decide) (fun _ _ _ h => h) (Or.inl ⟨by rfl, ?_⟩) (fun h0 => by assumption) ?_
                    rotate_left
                    · intro wS
                      go_simp
                      try with_reducible rfl
                    try simp only [Act.put, List.setIfInBounds_toArray, List.set_cons_zero, List.set_cons_succ]
                    refine wpAnyL_free (i := 16) (v := ?_) (some 109) rfl rfl (by kernel_rfl) (by kernel_rfl) (by kernel_rfl) (by decide) (fun _ _ _ h => h) (Or.inl ⟨by rfl, ?_⟩) (fun h0 => by assumption) ?_
                    rotate_left
                    · intro wS
                      go_simp
                      try with_reducible rfl
                    try simp only [Act.put, List.setIfInBounds_toArray, List.set_cons_zero, List.set_cons_succ]
                    refine wpAnyL_take (i := 17) (v := ?_) (some 110) rfl rfl (by kernel_rfl) (by kernel_rfl) (by kernel_rfl) (by kernel_rfl) (by kernel_rfl) (fun _ _ _ h => h) (Or.inl ⟨by rfl, ?_⟩) (by assumption) ?_
                    rotate_left
                    · intro wS hSw
                      try dsimp only at hSw
                      go_simp
                      try with_reducible rfl
                    try simp only [Act.put, List.setIfInBounds_toArray, List.set_cons_zero, List.set_cons_succ]
                    refine wpAnyL_ready (rs := [18]) (by kernel_rfl) (by simp) ?_
                    refine AllReadyL.last rfl (by kernel_rfl) (fun K hK => ?_) AllReadyL.nil
                    go_simp; go_at_call 141; refine (lessR rb (i * 3) rb (d * 3) w.heap.size p t _ _ _ _ _ _ _ _ _ ((HMI.out.row i hil).bel hHeld.2.2.2) (fun w' hk => (HMI.out.below hHeld.2.2.2 HRLI.out).other hil hd (fun e => HID.out e.symm) hk) HP.out HT3.out HL1.out HL3.out HL2.out HL4.out HQ1.out HQ2.out HE1.out HE2.out HRM.out HN1.out HN2.out).mono ?_; rintro e w5 ⟨rfl, hr5, hb5, hk5⟩
                    refine hK.out _ _ ?_
                    clear hK K
                    try simp only [Act.put, List.setIfInBounds_toArray, List.set_cons_zero, List.set_cons_succ]
                    refine wpAnyL_done (by kernel_rfl) ?_ _
                    refine NoPanic.normal ?_
                    have HM5 : Hid (MRows w5 rb w.heap.size rs.length u VL2 VB2 (clearK p R2 d cc (i + 1))) := Lib.hid (by
                      have h := (HMI.out.below hHeld.2.2.2 HRLI.out).upd hil hk5 (x := rowSub p t (clearK p R2 d cc i i) (clearK p R2 d cc i d)) (by
                        rw [rowSub_take, rowSub_at (by rw [HLI.out]; omega), rowSub_drop]
                        exact hr5)
                      have e := clearK_succ (p := p) (R := R2) (c := cc) HID.out
                      rw [HTT.out] at e
                      rw [HCI.out, show clearK p R2 d cc i d = rowScale p (intN (R2 d) cc) (R2 d) by unfold clearK; rw [if_pos rfl]] at h
                      rw [e] at h
                      exact h)
                    have HB5 : Hid (Below w.heap.size w w5) := Lib.hid ((HBLI.out.trans (hHeld.2.2.2.mono HBLI.out.size)).trans hb5)
                    have HRL6 : Hid (rb < w5.heap.size) := Lib.hid (Nat.lt_of_lt_of_le HRLI.out hk5.rest.1)
                    clear hHeld hr5 hb5 hk5
                    go_wp2
                    go_roundw
                    case rel => exact ⟨i + 1, by omega, by go_num, HM5.out, HRL6.out, HB5.out⟩
                    case measure => simp [intOf]; omega
              · obtain rfl : i = rs.length := by omega
                go_wp2
                go_roundw
                case rel => exact ⟨cc + 1, by omega, by go_num, by rw [HEQ2.out]; go_num, fun _ => ⟨rb, VL2, VB2, rfl, HRM.out, HRLI.out, by rw [HEQ2.out]; exact HMI.out⟩, HBLI.out⟩
                case measure => simp [intOf]; omega
        · obtain rfl : m = rs.length := by omega
          have HEQ : Hid (elimE p rs.length (row0 rs) (cc + 1) = (R, d)) := Lib.hid (by
            show stepE p rs.length cc (elimE p rs.length (row0 rs) cc) = _
            rw [HE.out]
            unfold stepE
            rw [if_pos (findE_eq rs.length d rs.length hdn (Nat.le_refl _) (by omega) HZZ.out (fun h => by omega))])
          go_wp2
          go_roundw
          case rel => exact ⟨cc + 1, by omega, by go_num, by rw [HEQ.out], by rw [HEQ.out]; exact HMR.out, HBL.out⟩
          case measure => simp [intOf]; omega
    · obtain rfl : cc = u := by omega
      clear dp
      go_wp2
      go_ret2
      rw [HE.out]
      exact ⟨_, _, rfl, HMR.out, HBL.out⟩

end Go.Proofs.Ytnbgpeoceejolaa
