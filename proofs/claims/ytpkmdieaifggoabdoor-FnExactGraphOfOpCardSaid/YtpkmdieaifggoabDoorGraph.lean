/-
  The graph of an operation: GraphOfOp of the model and of the program.
-/
import Derived.Test.YtpkmdieaifggoabDoorDepends
import Derived.Deep.AppendLies
import Derived.Deep.RegionHeld3
namespace Go.Proofs.YtpkmdieaifggoabDoor
open Go.RowKit

/-- The rows of a graph. -/
def graphR (s r : Nat) (tab : List Int) (k : Nat) : List (List Int) := (List.range k).map fun n => digs s r n ++ [intN tab n]
theorem graphR_len (s r : Nat) (tab : List Int) (k : Nat) : (graphR s r tab k).length = k := by simp [graphR]
theorem graphR_at (s r : Nat) (tab : List Int) (k i : Nat) (h : i < k) : rowN (graphR s r tab k) i = digs s r i ++ [intN tab i] := by
  rw [rowN_at _ _ (by rw [graphR_len]; exact h)]
  simp [graphR]

/-- What GraphOfOp answers. -/
def GraphOfOpIs (size ar : Int) (tab : List Int) (x : Int) (zs : List (List Int)) (cd : Int) : Prop :=
  (¬ OpOk size ar tab ∧ x = 0 ∧ zs = [] ∧ cd = 1) ∨ (OpOk size ar tab ∧ x = ar + 1 ∧ zs = graphR size.toNat ar.toNat tab tab.length ∧ cd = 0)
theorem GraphOfOpIs.exists (size ar : Int) (tab : List Int) : ∃ x zs cd, GraphOfOpIs size ar tab x zs cd := by
  by_cases h : OpOk size ar tab
  · exact ⟨_, _, _, .inr ⟨h, rfl, rfl, rfl⟩⟩
  · exact ⟨_, _, _, .inl ⟨h, rfl, rfl, rfl⟩⟩

theorem four_below {w1 w2 : World} {a b c d : Addr} {x y z u : Value} (h : w1.cell? a = some x ∧ w1.cell? b = some y ∧ w1.cell? c = some z ∧ w1.cell? d = some u) (hb : Below w1.heap.size w1 w2) :
    w2.cell? a = some x ∧ w2.cell? b = some y ∧ w2.cell? c = some z ∧ w2.cell? d = some u := ⟨below_cell hb h.1, below_cell hb h.2.1, below_cell hb h.2.2.1, below_cell hb h.2.2.2⟩
theorem four_grown {w1 w2 : World} {row : Option Nat} {a b c d : Addr} {x y z u : Value} (h : w1.cell? a = some x ∧ w1.cell? b = some y ∧ w1.cell? c = some z ∧ w1.cell? d = some u) (hg : w1.grownBy w2 row)
    (ha : some a.block ≠ row) (hb : some b.block ≠ row) (hc : some c.block ≠ row) (hd : some d.block ≠ row) :
    w2.cell? a = some x ∧ w2.cell? b = some y ∧ w2.cell? c = some z ∧ w2.cell? d = some u :=
  ⟨(hg.cell_far a (cell_block_lt h.1) ha).trans h.1, (hg.cell_far b (cell_block_lt h.2.1) hb).trans h.2.1, (hg.cell_far c (cell_block_lt h.2.2.1) hc).trans h.2.2.1, (hg.cell_far d (cell_block_lt h.2.2.2) hd).trans h.2.2.2⟩

theorem own_dig {w : World} {B B' : Nat} {s r k : Nat} {v : Value} (h : OwnRow w B' v (digs s r k)) (hB : B ≤ B') : w.ownsRow B 2 1 v r ((digs s r k).map (Value.int .i64)) := by
  have := h.mono hB
  unfold OwnRow at this
  rwa [digs_len] at this
theorem own_far {w : World} {B e sz n : Nat} {v : Value} {xs : List Value} (h : w.ownsRow B e sz v n xs) (p : Nat) (hp : p < B) : some p ≠ v.ownBlock := fun e' => by have := (h.lt p e'.symm).1; omega
theorem news_below {w w' : World} {ad : Addr} {xs : List Value} (h : ∀ j u, xs[j]? = some u → w.cell? (ad.add j) = some u) (hb : Below w.heap.size w w') : ∀ j u, xs[j]? = some u → w'.cell? (ad.add j) = some u := fun j u hu => below_cell hb (h j u hu)

theorem three_below {w1 w2 : World} {b c d : Addr} {y z u : Value} (h : w1.cell? b = some y ∧ w1.cell? c = some z ∧ w1.cell? d = some u) (hb : Below w1.heap.size w1 w2) :
    w2.cell? b = some y ∧ w2.cell? c = some z ∧ w2.cell? d = some u := ⟨below_cell hb h.1, below_cell hb h.2.1, below_cell hb h.2.2⟩
theorem three_grown {w1 w2 : World} {row : Option Nat} {b c d : Addr} {y z u : Value} (h : w1.cell? b = some y ∧ w1.cell? c = some z ∧ w1.cell? d = some u) (hg : w1.grownBy w2 row)
    (hb : some b.block ≠ row) (hc : some c.block ≠ row) (hd : some d.block ≠ row) :
    w2.cell? b = some y ∧ w2.cell? c = some z ∧ w2.cell? d = some u :=
  ⟨(hg.cell_far b (cell_block_lt h.1) hb).trans h.1, (hg.cell_far c (cell_block_lt h.2.1) hc).trans h.2.1, (hg.cell_far d (cell_block_lt h.2.2) hd).trans h.2.2⟩
theorem three_set {w1 : World} {p b c d : Addr} {y z u v : Value} (h : w1.cell? b = some y ∧ w1.cell? c = some z ∧ w1.cell? d = some u)
    (hb : b.block ≠ p.block) (hc : c.block ≠ p.block) (hd : d.block ≠ p.block) :
    (w1.setCell p v).cell? b = some y ∧ (w1.setCell p v).cell? c = some z ∧ (w1.setCell p v).cell? d = some u :=
  ⟨(World.cell?_of_block (Below.heap_setCell _ _ _ _ hb)).trans h.1, (World.cell?_of_block (Below.heap_setCell _ _ _ _ hc)).trans h.2.1, (World.cell?_of_block (Below.heap_setCell _ _ _ _ hd)).trans h.2.2⟩

set_option linter.unusedSimpArgs false in
set_option maxHeartbeats 8000000 in
set_option maxRecDepth 100000 in
theorem specGraph_yes (s r : Nat) (a : Option Addr) (n c : Nat) (tab : List Int) (w : World) (h : RowAt w (.slice a n c) tab) (ho : OpOk s r tab) :
    Calls Tryd.prog 19 #[.int .i64 s, .agg #[.int .i64 r, .slice a n c]] w (MadeRel2 w (r + 1) (graphR s r tab tab.length) 0) := by
  obtain ⟨i0, hi0, hz0, hz1, hz2⟩ := info_parts info_int8
  obtain ⟨j0, hj0, hy0, hy1, hy2⟩ := info_parts info_row
  have HP := Lib.hid ((OpAt.new w r a n c tab 44 h).below ((Below.refl _ _).alloc (Nat.le_refl _) (.cells #[.int .i64 0, .slice none 0 0] 27)))
  have hR0 := (RelBox.new (w.alloc (.cells #[.int .i64 r, .slice a n c] 44)) (.int .i64 0) (.slice none 0 0))
  rw [World.size_alloc] at hR0
  have HR0 := Lib.hid hR0
  have K0 := Lib.hid ((((Kept.start w).read (lives_row _ _) h).box w.heap.size rfl (.int .i64 r) (.slice a n c) 44).below ((Below.refl _ _).alloc (Nat.le_refl _) (.cells #[.int .i64 0, .slice none 0 0] 27)))
  have HO := Lib.hid (Tells.yes ho)
  have HOO := Lib.hid ho
  obtain ⟨hs, har, htab⟩ := ho
  have hs1 : 1 ≤ s := by have := hs.1; omega
  have hs2 : s ≤ 4 := by have := hs.2; omega
  have hr1 : 1 ≤ r := by have := har.1; omega
  have hr2 : r ≤ 3 := by have := har.2; omega
  have hlen : tab.length = s ^ r := by have := htab.1; simp only [Int.toNat_natCast] at this; omega
  have hl256 : tab.length ≤ 256 := by rw [hlen]; exact (pow_le4 hs1 hs2 r (by omega)).1
  have hpos : 0 < tab.length := by rw [hlen]; exact (pow_le4 hs1 hs2 r (by omega)).2
  obtain ⟨b, off, rfl, rfl, hc0⟩ := SlAt.some_of h 0 hpos
  have hbw : b < w.heap.size := cell_block_lt hc0
  clear hs har htab hpos h hc0 hR0
  go_enter Tryd.func19, Tryd.ntmps19
  have HLEN := Lib.hid hlen
  clear hlen
  go_wp2_with fail
  refine (l02Ok _ _ _ _ _ true _ HP.out HO.out).mono ?_
  rintro e w1 ⟨rfl, hq1⟩
  have hsz1 : w1.heap.size = w.heap.size + 2 := by obtain ⟨m, rfl⟩ := hq1; simp
  have K1 := Lib.hid (K0.out.below hq1.bel)
  have HR1 := Lib.hid (HR0.out.below hq1.bel)
  have cc0 := K1.out.c 0 rfl
  have cc1 := K1.out.c 1 rfl
  have HZ1 := Lib.hid hsz1
  clear hq1 hsz1
  go_wp2
  go_loopw [7] (fun i wr => ∃ (k : Nat) (a' : Option Addr) (n' c' : Nat) (V : Nat → Value), k ≤ tab.length ∧ i = .int .i64 k ∧ RelBox wr w1.heap.size (.int .i64 (r + 1)) (.slice a' n' c') ∧ OwnGridV wr (w1.heap.size + 1) wr.heap.size (.slice a' n' c') k V (fun i => digs s r i ++ [intN tab i]) ∧ Below w1.heap.size w1 wr ∧ w1.heap.size + 1 ≤ wr.heap.size) (fun i _ => tab.length - (intOf i).toNat)
  case atStart =>
    exact ⟨0, none, 0, 0, fun _ => .slice none 0 0, Nat.zero_le _, rfl, RelBox.new w1 _ _, OwnGridV.none _ _ _ _, (Below.refl _ _).alloc (Nat.le_refl _) _, by simp⟩
  case round =>
    obtain ⟨k, a', n', c', V, hk, rfl, hb, hgr, hbel, hsz⟩ := hrel
    by_cases hlt : k < tab.length
    · have cd0 := below_cell hbel cc0
      have cd1 := below_cell hbel cc1
      have ce := hb.c1
      have fe := hb.free 1
      have hx := SlAt.cell_of ((K1.out.below hbel).row 0 rfl) k hlt
      have hlt' : (k : Int) < (tab.length : Int) := by omega
      have cea := below_cell ((Below.refl wr.heap.size wr).alloc (Nat.le_refl _) (.cells #[.int .i64 (intN tab k)] 2)) ce
      have HG := Lib.hid hgr
      have HB := Lib.hid hb
      have HW := Lib.hid hbel
      have HF := Lib.hid (fun (q : Nat) (hq : q < w1.heap.size + 1) => HG.out.far q hq)
      have HS := Lib.hid hsz
      have hzb := HZ1.out
      have hq6 : w.heap.size < w1.heap.size := by omega
      have hq7 : b < w1.heap.size := by omega
      have hq1 : w1.heap.size < wr.heap.size := by omega
      have hq2 : w.heap.size < wr.heap.size := by omega
      have hq3 : b < wr.heap.size := by omega
      have hq4 : w.heap.size < w1.heap.size + 1 := by omega
      have hq5 : b < w1.heap.size + 1 := by omega
      clear hb hgr hbel hsz hzb
      go_wp2
      -- REGION
      refine wp_region_noPanic ?_
      refine wp_region_held_drew (S := (fun w' => w'.cell? ⟨w.heap.size, 0, none⟩ = some (.int .i64 r) ∧ w'.cell? ⟨w.heap.size, 1, none⟩ = some (.slice (some ⟨b, off, none⟩) tab.length c) ∧ w'.cell? ⟨b, off + k, none⟩ = some (.int .i64 (intN tab k)))) (by kernel_rfl) ?_ (fun hHeld => ?_)
      · exact ⟨cd0, cd1, hx⟩
      refine wpAnyH_take (i := 0) (v := ?_) rfl (by kernel_rfl) (by kernel_rfl) (by kernel_rfl) (fun _ _ _ h => h) (Or.inl ⟨by rfl, ?_⟩) (by assumption) ?_
      rotate_left
      · intro wS hSw
        try dsimp only at hSw
        go_simp
        try with_reducible rfl
      try simp only [Act.put, List.setIfInBounds_toArray, List.set_cons_zero, List.set_cons_succ]
      refine wpAnyH_take (i := 2) (v := ?_) rfl (by kernel_rfl) (by kernel_rfl) (by kernel_rfl) (fun _ _ _ h => h) (Or.inl ⟨by rfl, ?_⟩) (by assumption) ?_
      rotate_left
      · intro wS hSw
        try dsimp only at hSw
        go_simp
        try with_reducible rfl
      try simp only [Act.put, List.setIfInBounds_toArray, List.set_cons_zero, List.set_cons_succ]
      refine wpAnyH_take (i := 3) (v := ?_) rfl (by kernel_rfl) (by kernel_rfl) (by kernel_rfl) (fun _ _ _ h => h) (Or.inl ⟨by rfl, ?_⟩) (by assumption) ?_
      rotate_left
      · intro wS hSw
        try dsimp only at hSw
        go_simp
        try with_reducible rfl
      try simp only [Act.put, List.setIfInBounds_toArray, List.set_cons_zero, List.set_cons_succ]
      refine wpAnyH_take (i := 4) (v := ?_) rfl (by kernel_rfl) (by kernel_rfl) (by kernel_rfl) (fun _ _ _ h => h) (Or.inl ⟨by rfl, ?_⟩) (by assumption) ?_
      rotate_left
      · intro wS hSw
        try dsimp only at hSw
        go_simp
        try with_reducible rfl
      try simp only [Act.put, List.setIfInBounds_toArray, List.set_cons_zero, List.set_cons_succ]
      refine wpAnyH_take (i := 5) (v := ?_) rfl (by kernel_rfl) (by kernel_rfl) (by kernel_rfl) (fun _ _ _ h => h) (Or.inl ⟨by rfl, ?_⟩) (by assumption) ?_
      rotate_left
      · intro wS hSw
        try dsimp only at hSw
        go_simp
        try with_reducible rfl
      try simp only [Act.put, List.setIfInBounds_toArray, List.set_cons_zero, List.set_cons_succ]
      refine wpAnyH_take (i := 7) (v := ?_) rfl (by kernel_rfl) (by kernel_rfl) (by kernel_rfl) (fun _ _ _ h => h) (Or.inl ⟨by rfl, ?_⟩) (by assumption) ?_
      rotate_left
      · intro wS hSw
        try dsimp only at hSw
        go_simp
        try with_reducible rfl
      try simp only [Act.put, List.setIfInBounds_toArray, List.set_cons_zero, List.set_cons_succ]
      refine wpAnyH_take (i := 8) (v := ?_) rfl (by kernel_rfl) (by kernel_rfl) (by kernel_rfl) (fun _ _ _ h => h) (Or.inl ⟨by rfl, ?_⟩) (by assumption) ?_
      rotate_left
      · intro wS hSw
        try dsimp only at hSw
        go_simp
        try with_reducible rfl
      try simp only [Act.put, List.setIfInBounds_toArray, List.set_cons_zero, List.set_cons_succ]
      refine wpAnyH_take (i := 9) (v := ?_) rfl (by kernel_rfl) (by kernel_rfl) (by kernel_rfl) (fun _ _ _ h => h) (Or.inl ⟨by rfl, ?_⟩) (by assumption) ?_
      rotate_left
      · intro wS hSw
        try dsimp only at hSw
        go_simp
        try with_reducible rfl
      try simp only [Act.put, List.setIfInBounds_toArray, List.set_cons_zero, List.set_cons_succ]
      refine wpAnyH_take (i := 10) (v := ?_) rfl (by kernel_rfl) (by kernel_rfl) (by kernel_rfl) (fun _ _ _ h => h) (Or.inl ⟨by rfl, ?_⟩) (by assumption) ?_
      rotate_left
      · intro wS hSw
        try dsimp only at hSw
        go_simp
        try with_reducible rfl
      try simp only [Act.put, List.setIfInBounds_toArray, List.set_cons_zero, List.set_cons_succ]
      refine wpAnyH_take (i := 11) (v := ?_) rfl (by kernel_rfl) (by kernel_rfl) (by kernel_rfl) (fun _ _ _ h => h) (Or.inl ⟨by rfl, ?_⟩) (by assumption) ?_
      rotate_left
      · intro wS hSw
        try dsimp only at hSw
        go_simp
        try with_reducible rfl
      try simp only [Act.put, List.setIfInBounds_toArray, List.set_cons_zero, List.set_cons_succ]
      refine wpAnyH_ready (rs := [1, 6, 12]) (by kernel_rfl) (by simp) ?_
      refine AllReadyH.cons rfl (fun K hK => ?_) ?_
      · go_simp
        refine hK.out _ _ ?_ (fun hHeld => ?_)
        · first | exact three_set HS5.out (by show w.heap.size ≠ w1.heap.size; omega) (by show w.heap.size ≠ w1.heap.size; omega) (by show b ≠ w1.heap.size; omega) | exact HS5.out | exact three_grown (by assumption) hgrow3 (HN2.out _ hq2) (HN2.out _ hq2) (HN2.out _ hq3) | exact three_below (by assumption) hb2 | exact ⟨cd0, cd1, hx⟩ | go_keep
        clear hK K
        try simp only [Act.put, List.setIfInBounds_toArray, List.set_cons_zero, List.set_cons_succ]
        refine wpAnyH_ready (rs := [6, 12]) (by kernel_rfl) (by simp) ?_
        refine AllReadyH.cons rfl (fun K hK => ?_) ?_
        · go_simp; go_at_call 42; refine (l01Digits s r k hs1 (by omega) (by omega) (by omega) _).mono ?_; rintro e w2 ⟨a2, c2, rfl, ho2, hb2⟩; have hO2 := Lib.hid (own_dig (B := wr.heap.size) ho2 (by simp)); have hB2 : Hid (Below wr.heap.size wr w2) := Lib.hid (by first | exact ((QW.refl wr).drew.below _).trans hb2 | exact (((QW.refl wr).drew.below _).alloc (Nat.le_refl _) _).trans (hb2.mono (by simp))); have HN2 := Lib.hid (own_far hO2.out); have ce2 := below_cell hB2.out ce; have ce2a := below_cell ((Below.refl w2.heap.size w2).alloc (Nat.le_refl _) (.cells #[.int .i64 (intN tab k)] 2)) ce2; clear ho2; try dsimp only
          refine hK.out _ _ ?_ (fun hHeld => ?_)
          · first | exact three_set HS5.out (by show w.heap.size ≠ w1.heap.size; omega) (by show w.heap.size ≠ w1.heap.size; omega) (by show b ≠ w1.heap.size; omega) | exact HS5.out | exact three_grown (by assumption) hgrow3 (HN2.out _ hq2) (HN2.out _ hq2) (HN2.out _ hq3) | exact three_below (by assumption) hb2 | exact ⟨cd0, cd1, hx⟩ | go_keep
          clear hK K
          try simp only [Act.put, List.setIfInBounds_toArray, List.set_cons_zero, List.set_cons_succ]
          refine wpAnyH_ready (rs := [12]) (by kernel_rfl) (by simp) ?_
          refine AllReadyH.cons rfl (fun K hK => ?_) AllReadyH.nil
          go_simp
          refine hK.out _ _ ?_ (fun hHeld => ?_)
          · first | exact three_set HS5.out (by show w.heap.size ≠ w1.heap.size; omega) (by show w.heap.size ≠ w1.heap.size; omega) (by show b ≠ w1.heap.size; omega) | exact HS5.out | exact three_grown (by assumption) hgrow3 (HN2.out _ hq2) (HN2.out _ hq2) (HN2.out _ hq3) | exact three_below (by assumption) hb2 | exact ⟨cd0, cd1, hx⟩ | go_keep
          clear hK K
          try simp only [Act.put, List.setIfInBounds_toArray, List.set_cons_zero, List.set_cons_succ]
          refine wpAnyH_ready (rs := [13]) (by kernel_rfl) (by simp) ?_
          refine AllReadyH.cons rfl (fun K hK => ?_) AllReadyH.nil
          refine step_append_lies _ (by rfl) _ _ 39 (by rfl) wr.heap.size 2 i0 (.int .i64 0) 1 8 Tryd.underlying39 hi0 hz0 hz1 hz2 (by rfl) (by decide) (.slice a2 r c2) r _ (by rfl) (by first | exact hO2.out.alloc _ | exact hO2.out) _ 1 1 [.int .i64 (intN tab k)] (by rfl) (by rfl) (by first | exact cell_one_new _ _ _ | exact news_below (cell_one_new _ _ _) hb2 | exact news_below (news_below (cell_one_new wr _ _) ((QW.refl _).drew.below _)) hb2) (by simp [Value.oneCell']) (by omega) (by unfold maxLen; omega) (by omega) (by have := hB2.out.size; first | omega | (simp; omega)) _ rfl ?_; intro g3 cap3 w3 hown3 hgrow3 hat3 hlt3; have hB3 : Hid (Below wr.heap.size wr w3) := Lib.hid (by first | exact (hB2.out.alloc hB2.out.size _).grown hgrow3 (by have := hB2.out.size; simp; omega) (fun q hq => (hO2.out.lt q hq).1) | exact hB2.out.grown hgrow3 hB2.out.size (fun q hq => (hO2.out.lt q hq).1)); have hO3 := Lib.hid hown3; have ce3 := below_cell hB3.out ce; have ce3a := below_cell ((Below.refl w3.heap.size w3).alloc (Nat.le_refl _) (.cells #[.slice (some ⟨g3, 0, none⟩) (r + 1) cap3] 39)) ce3; clear hown3
          refine hK.out _ _ ?_ (fun hHeld => ?_)
          · first | exact three_set HS5.out (by show w.heap.size ≠ w1.heap.size; omega) (by show w.heap.size ≠ w1.heap.size; omega) (by show b ≠ w1.heap.size; omega) | exact HS5.out | exact three_grown (by assumption) hgrow3 (HN2.out _ hq2) (HN2.out _ hq2) (HN2.out _ hq3) | exact three_below (by assumption) hb2 | exact ⟨cd0, cd1, hx⟩ | go_keep
          clear hK K
          try simp only [Act.put, List.setIfInBounds_toArray, List.set_cons_zero, List.set_cons_succ]
          refine wpAnyH_ready (rs := [14]) (by kernel_rfl) (by simp) ?_
          refine AllReadyH.cons rfl (fun K hK => ?_) AllReadyH.nil
          go_simp
          refine hK.out _ _ ?_ (fun hHeld => ?_)
          · first | exact three_set HS5.out (by show w.heap.size ≠ w1.heap.size; omega) (by show w.heap.size ≠ w1.heap.size; omega) (by show b ≠ w1.heap.size; omega) | exact HS5.out | exact three_grown (by assumption) hgrow3 (HN2.out _ hq2) (HN2.out _ hq2) (HN2.out _ hq3) | exact three_below (by assumption) hb2 | exact ⟨cd0, cd1, hx⟩ | go_keep
          clear hK K
          try simp only [Act.put, List.setIfInBounds_toArray, List.set_cons_zero, List.set_cons_succ]
          refine wpAnyH_ready (rs := [15]) (by kernel_rfl) (by simp) ?_
          refine AllReadyH.cons rfl (fun K hK => ?_) AllReadyH.nil
          refine step_append_lies _ (by rfl) _ _ 23 (by rfl) (w1.heap.size + 1) 39 j0 (.slice none 0 0) 1 24 Tryd.underlying23 hj0 hy0 hy1 hy2 (by rfl) (by decide) (.slice a' n' c') k _ (by rfl) ((ownsRow_below HG.out.outer hB3.out).alloc _) _ 1 1 [.slice (some ⟨g3, 0, none⟩) (r + 1) cap3] (by rfl) (by rfl) (cell_one_new _ _ _) (by simp [Value.oneCell']) (by omega) (by unfold maxLen; omega) (by omega) (by have := hB3.out.size; simp; omega) _ rfl ?_; intro g5 cap5 w5 hown5 hgrow5 hat5 hlt5; have HS5 := Lib.hid (three_grown (three_below ⟨cd0, cd1, hx⟩ (hB3.out.alloc hB3.out.size (.cells #[.slice (some ⟨g3, 0, none⟩) (r + 1) cap3] 39))) hgrow5 (Ne.symm (HF.out _ hq4)) (Ne.symm (HF.out _ hq4)) (Ne.symm (HF.out _ hq5))); have hb5 := ((HB.out.below hB3.out).alloc (.cells #[.slice (some ⟨g3, 0, none⟩) (r + 1) cap3] 39)).grown hgrow5 (HF.out _ (by omega)); have fe5 := hb5.free 1; have ce5 := hb5.c1; have HB5 := Lib.hid hb5; have HO5 := Lib.hid hown5; have HR5 := Lib.hid hgrow5; clear hb5 hown5
          refine hK.out _ _ ?_ (fun hHeld => ?_)
          · first | exact three_set HS5.out (by show w.heap.size ≠ w1.heap.size; omega) (by show w.heap.size ≠ w1.heap.size; omega) (by show b ≠ w1.heap.size; omega) | exact HS5.out | exact three_grown (by assumption) hgrow3 (HN2.out _ hq2) (HN2.out _ hq2) (HN2.out _ hq3) | exact three_below (by assumption) hb2 | exact ⟨cd0, cd1, hx⟩ | go_keep
          clear hK K
          try simp only [Act.put, List.setIfInBounds_toArray, List.set_cons_zero, List.set_cons_succ]
          refine wpAnyH_take (i := 16) (v := ?_) rfl (by kernel_rfl) (by kernel_rfl) (by kernel_rfl) (fun _ _ _ h => h) (Or.inl ⟨by rfl, ?_⟩) (by assumption) ?_
          rotate_left
          · intro wS hSw
            try dsimp only at hSw
            go_simp
            try with_reducible rfl
          try simp only [Act.put, List.setIfInBounds_toArray, List.set_cons_zero, List.set_cons_succ]
          refine wpAnyH_ready (rs := [17]) (by kernel_rfl) (by simp) ?_
          refine AllReadyH.cons rfl (fun K hK => ?_) AllReadyH.nil
          go_simp
          refine hK.out _ _ ?_ (fun hHeld => ?_)
          · first | exact three_set HS5.out (by show w.heap.size ≠ w1.heap.size; omega) (by show w.heap.size ≠ w1.heap.size; omega) (by show b ≠ w1.heap.size; omega) | exact HS5.out | exact three_grown (by assumption) hgrow3 (HN2.out _ hq2) (HN2.out _ hq2) (HN2.out _ hq3) | exact three_below (by assumption) hb2 | exact ⟨cd0, cd1, hx⟩ | go_keep
          clear hK K
          try simp only [Act.put, List.setIfInBounds_toArray, List.set_cons_zero, List.set_cons_succ]
          refine wpAnyH_done (by kernel_rfl) ?_ _
          refine NoPanic.normal ?_
          have hr5 : OwnRow (w3.alloc (.cells #[.slice (some ⟨g3, 0, none⟩) (r + 1) cap3] 39)) wr.heap.size (.slice (some ⟨g3, 0, none⟩) (r + 1) cap3) (digs s r k ++ [intN tab k]) := by
            refine OwnRow.below (w := w3) ?_ ((Below.refl _ _).alloc (Nat.le_refl _) _)
            unfold OwnRow
            rw [List.length_append, digs_len, List.map_append]
            exact hO3.out
          have hg5 := Lib.hid (HG.out.grow (hB3.out.alloc hB3.out.size (.cells #[.slice (some ⟨g3, 0, none⟩) (r + 1) cap3] 39)) hr5 HS.out HO5.out HR5.out)
          have hW5 := Lib.hid ((HW.out.trans ((hB3.out.alloc hB3.out.size (.cells #[.slice (some ⟨g3, 0, none⟩) (r + 1) cap3] 39)).mono HW.out.size)).grown HR5.out (by have := hB3.out.size; have := HS.out; simp; omega) (fun q hq => by have := (HG.out.outer.lt q hq).1; omega))
          have hs5 : Hid (w1.heap.size + 1 ≤ w5.heap.size) := Lib.hid (by have h1 := HR5.out.size; have h2 := hB3.out.size; have h3 := HS.out; simp at h1; omega)
          clear hr5 hgrow3 hgrow5 ce2 ce2a ce3 ce3a ce5 fe5 ce cea cd0 cd1 hx
          go_wp2
          go_roundw
          case rel =>
            refine ⟨k + 1, some ⟨g5, 0, none⟩, k + 1, cap5, _, by omega, by go_num, HB5.out.set1 _, ((hg5.out.same (by simp [World.setCell]) fun g hg _ => Below.heap_setCell _ _ _ _ (by show g ≠ w1.heap.size; omega)).full).congr fun i hi => ?_, hW5.out.setCell (Nat.le_refl _) _, by have := hs5.out; simpa [World.setCell] using this⟩
            by_cases hik : i = k
            · subst hik; simp
            · simp [hik]
          case measure => simp [intOf]; omega
        refine AllReadyH.cons rfl (fun K hK => ?_) AllReadyH.nil
        go_simp
        refine hK.out _ _ ?_ (fun hHeld => ?_)
        · first | exact three_set HS5.out (by show w.heap.size ≠ w1.heap.size; omega) (by show w.heap.size ≠ w1.heap.size; omega) (by show b ≠ w1.heap.size; omega) | exact HS5.out | exact three_grown (by assumption) hgrow3 (HN2.out _ hq2) (HN2.out _ hq2) (HN2.out _ hq3) | exact three_below (by assumption) hb2 | exact ⟨cd0, cd1, hx⟩ | go_keep
        clear hK K
        try simp only [Act.put, List.setIfInBounds_toArray, List.set_cons_zero, List.set_cons_succ]
        refine wpAnyH_ready (rs := [6]) (by kernel_rfl) (by simp) ?_
        refine AllReadyH.cons rfl (fun K hK => ?_) AllReadyH.nil
        go_simp; go_at_call 42; refine (l01Digits s r k hs1 (by omega) (by omega) (by omega) _).mono ?_; rintro e w2 ⟨a2, c2, rfl, ho2, hb2⟩; have hO2 := Lib.hid (own_dig (B := wr.heap.size) ho2 (by simp)); have hB2 : Hid (Below wr.heap.size wr w2) := Lib.hid (by first | exact ((QW.refl wr).drew.below _).trans hb2 | exact (((QW.refl wr).drew.below _).alloc (Nat.le_refl _) _).trans (hb2.mono (by simp))); have HN2 := Lib.hid (own_far hO2.out); have ce2 := below_cell hB2.out ce; have ce2a := below_cell ((Below.refl w2.heap.size w2).alloc (Nat.le_refl _) (.cells #[.int .i64 (intN tab k)] 2)) ce2; clear ho2; try dsimp only
        refine hK.out _ _ ?_ (fun hHeld => ?_)
        · first | exact three_set HS5.out (by show w.heap.size ≠ w1.heap.size; omega) (by show w.heap.size ≠ w1.heap.size; omega) (by show b ≠ w1.heap.size; omega) | exact HS5.out | exact three_grown (by assumption) hgrow3 (HN2.out _ hq2) (HN2.out _ hq2) (HN2.out _ hq3) | exact three_below (by assumption) hb2 | exact ⟨cd0, cd1, hx⟩ | go_keep
        clear hK K
        try simp only [Act.put, List.setIfInBounds_toArray, List.set_cons_zero, List.set_cons_succ]
        refine wpAnyH_ready (rs := [13]) (by kernel_rfl) (by simp) ?_
        refine AllReadyH.cons rfl (fun K hK => ?_) AllReadyH.nil
        refine step_append_lies _ (by rfl) _ _ 39 (by rfl) wr.heap.size 2 i0 (.int .i64 0) 1 8 Tryd.underlying39 hi0 hz0 hz1 hz2 (by rfl) (by decide) (.slice a2 r c2) r _ (by rfl) (by first | exact hO2.out.alloc _ | exact hO2.out) _ 1 1 [.int .i64 (intN tab k)] (by rfl) (by rfl) (by first | exact cell_one_new _ _ _ | exact news_below (cell_one_new _ _ _) hb2 | exact news_below (news_below (cell_one_new wr _ _) ((QW.refl _).drew.below _)) hb2) (by simp [Value.oneCell']) (by omega) (by unfold maxLen; omega) (by omega) (by have := hB2.out.size; first | omega | (simp; omega)) _ rfl ?_; intro g3 cap3 w3 hown3 hgrow3 hat3 hlt3; have hB3 : Hid (Below wr.heap.size wr w3) := Lib.hid (by first | exact (hB2.out.alloc hB2.out.size _).grown hgrow3 (by have := hB2.out.size; simp; omega) (fun q hq => (hO2.out.lt q hq).1) | exact hB2.out.grown hgrow3 hB2.out.size (fun q hq => (hO2.out.lt q hq).1)); have hO3 := Lib.hid hown3; have ce3 := below_cell hB3.out ce; have ce3a := below_cell ((Below.refl w3.heap.size w3).alloc (Nat.le_refl _) (.cells #[.slice (some ⟨g3, 0, none⟩) (r + 1) cap3] 39)) ce3; clear hown3
        refine hK.out _ _ ?_ (fun hHeld => ?_)
        · first | exact three_set HS5.out (by show w.heap.size ≠ w1.heap.size; omega) (by show w.heap.size ≠ w1.heap.size; omega) (by show b ≠ w1.heap.size; omega) | exact HS5.out | exact three_grown (by assumption) hgrow3 (HN2.out _ hq2) (HN2.out _ hq2) (HN2.out _ hq3) | exact three_below (by assumption) hb2 | exact ⟨cd0, cd1, hx⟩ | go_keep
        clear hK K
        try simp only [Act.put, List.setIfInBounds_toArray, List.set_cons_zero, List.set_cons_succ]
        refine wpAnyH_ready (rs := [14]) (by kernel_rfl) (by simp) ?_
        refine AllReadyH.cons rfl (fun K hK => ?_) AllReadyH.nil
        go_simp
        refine hK.out _ _ ?_ (fun hHeld => ?_)
        · first | exact three_set HS5.out (by show w.heap.size ≠ w1.heap.size; omega) (by show w.heap.size ≠ w1.heap.size; omega) (by show b ≠ w1.heap.size; omega) | exact HS5.out | exact three_grown (by assumption) hgrow3 (HN2.out _ hq2) (HN2.out _ hq2) (HN2.out _ hq3) | exact three_below (by assumption) hb2 | exact ⟨cd0, cd1, hx⟩ | go_keep
        clear hK K
        try simp only [Act.put, List.setIfInBounds_toArray, List.set_cons_zero, List.set_cons_succ]
        refine wpAnyH_ready (rs := [15]) (by kernel_rfl) (by simp) ?_
        refine AllReadyH.cons rfl (fun K hK => ?_) AllReadyH.nil
        refine step_append_lies _ (by rfl) _ _ 23 (by rfl) (w1.heap.size + 1) 39 j0 (.slice none 0 0) 1 24 Tryd.underlying23 hj0 hy0 hy1 hy2 (by rfl) (by decide) (.slice a' n' c') k _ (by rfl) ((ownsRow_below HG.out.outer hB3.out).alloc _) _ 1 1 [.slice (some ⟨g3, 0, none⟩) (r + 1) cap3] (by rfl) (by rfl) (cell_one_new _ _ _) (by simp [Value.oneCell']) (by omega) (by unfold maxLen; omega) (by omega) (by have := hB3.out.size; simp; omega) _ rfl ?_; intro g5 cap5 w5 hown5 hgrow5 hat5 hlt5; have HS5 := Lib.hid (three_grown (three_below ⟨cd0, cd1, hx⟩ (hB3.out.alloc hB3.out.size (.cells #[.slice (some ⟨g3, 0, none⟩) (r + 1) cap3] 39))) hgrow5 (Ne.symm (HF.out _ hq4)) (Ne.symm (HF.out _ hq4)) (Ne.symm (HF.out _ hq5))); have hb5 := ((HB.out.below hB3.out).alloc (.cells #[.slice (some ⟨g3, 0, none⟩) (r + 1) cap3] 39)).grown hgrow5 (HF.out _ (by omega)); have fe5 := hb5.free 1; have ce5 := hb5.c1; have HB5 := Lib.hid hb5; have HO5 := Lib.hid hown5; have HR5 := Lib.hid hgrow5; clear hb5 hown5
        refine hK.out _ _ ?_ (fun hHeld => ?_)
        · first | exact three_set HS5.out (by show w.heap.size ≠ w1.heap.size; omega) (by show w.heap.size ≠ w1.heap.size; omega) (by show b ≠ w1.heap.size; omega) | exact HS5.out | exact three_grown (by assumption) hgrow3 (HN2.out _ hq2) (HN2.out _ hq2) (HN2.out _ hq3) | exact three_below (by assumption) hb2 | exact ⟨cd0, cd1, hx⟩ | go_keep
        clear hK K
        try simp only [Act.put, List.setIfInBounds_toArray, List.set_cons_zero, List.set_cons_succ]
        refine wpAnyH_take (i := 16) (v := ?_) rfl (by kernel_rfl) (by kernel_rfl) (by kernel_rfl) (fun _ _ _ h => h) (Or.inl ⟨by rfl, ?_⟩) (by assumption) ?_
        rotate_left
        · intro wS hSw
          try dsimp only at hSw
          go_simp
          try with_reducible rfl
        try simp only [Act.put, List.setIfInBounds_toArray, List.set_cons_zero, List.set_cons_succ]
        refine wpAnyH_ready (rs := [17]) (by kernel_rfl) (by simp) ?_
        refine AllReadyH.cons rfl (fun K hK => ?_) AllReadyH.nil
        go_simp
        refine hK.out _ _ ?_ (fun hHeld => ?_)
        · first | exact three_set HS5.out (by show w.heap.size ≠ w1.heap.size; omega) (by show w.heap.size ≠ w1.heap.size; omega) (by show b ≠ w1.heap.size; omega) | exact HS5.out | exact three_grown (by assumption) hgrow3 (HN2.out _ hq2) (HN2.out _ hq2) (HN2.out _ hq3) | exact three_below (by assumption) hb2 | exact ⟨cd0, cd1, hx⟩ | go_keep
        clear hK K
        try simp only [Act.put, List.setIfInBounds_toArray, List.set_cons_zero, List.set_cons_succ]
        refine wpAnyH_done (by kernel_rfl) ?_ _
        refine NoPanic.normal ?_
        have hr5 : OwnRow (w3.alloc (.cells #[.slice (some ⟨g3, 0, none⟩) (r + 1) cap3] 39)) wr.heap.size (.slice (some ⟨g3, 0, none⟩) (r + 1) cap3) (digs s r k ++ [intN tab k]) := by
          refine OwnRow.below (w := w3) ?_ ((Below.refl _ _).alloc (Nat.le_refl _) _)
          unfold OwnRow
          rw [List.length_append, digs_len, List.map_append]
          exact hO3.out
        have hg5 := Lib.hid (HG.out.grow (hB3.out.alloc hB3.out.size (.cells #[.slice (some ⟨g3, 0, none⟩) (r + 1) cap3] 39)) hr5 HS.out HO5.out HR5.out)
        have hW5 := Lib.hid ((HW.out.trans ((hB3.out.alloc hB3.out.size (.cells #[.slice (some ⟨g3, 0, none⟩) (r + 1) cap3] 39)).mono HW.out.size)).grown HR5.out (by have := hB3.out.size; have := HS.out; simp; omega) (fun q hq => by have := (HG.out.outer.lt q hq).1; omega))
        have hs5 : Hid (w1.heap.size + 1 ≤ w5.heap.size) := Lib.hid (by have h1 := HR5.out.size; have h2 := hB3.out.size; have h3 := HS.out; simp at h1; omega)
        clear hr5 hgrow3 hgrow5 ce2 ce2a ce3 ce3a ce5 fe5 ce cea cd0 cd1 hx
        go_wp2
        go_roundw
        case rel =>
          refine ⟨k + 1, some ⟨g5, 0, none⟩, k + 1, cap5, _, by omega, by go_num, HB5.out.set1 _, ((hg5.out.same (by simp [World.setCell]) fun g hg _ => Below.heap_setCell _ _ _ _ (by show g ≠ w1.heap.size; omega)).full).congr fun i hi => ?_, hW5.out.setCell (Nat.le_refl _) _, by have := hs5.out; simpa [World.setCell] using this⟩
          by_cases hik : i = k
          · subst hik; simp
          · simp [hik]
        case measure => simp [intOf]; omega
      refine AllReadyH.cons rfl (fun K hK => ?_) ?_
      · go_simp; go_at_call 42; refine (l01Digits s r k hs1 (by omega) (by omega) (by omega) _).mono ?_; rintro e w2 ⟨a2, c2, rfl, ho2, hb2⟩; have hO2 := Lib.hid (own_dig (B := wr.heap.size) ho2 (by simp)); have hB2 : Hid (Below wr.heap.size wr w2) := Lib.hid (by first | exact ((QW.refl wr).drew.below _).trans hb2 | exact (((QW.refl wr).drew.below _).alloc (Nat.le_refl _) _).trans (hb2.mono (by simp))); have HN2 := Lib.hid (own_far hO2.out); have ce2 := below_cell hB2.out ce; have ce2a := below_cell ((Below.refl w2.heap.size w2).alloc (Nat.le_refl _) (.cells #[.int .i64 (intN tab k)] 2)) ce2; clear ho2; try dsimp only
        refine hK.out _ _ ?_ (fun hHeld => ?_)
        · first | exact three_set HS5.out (by show w.heap.size ≠ w1.heap.size; omega) (by show w.heap.size ≠ w1.heap.size; omega) (by show b ≠ w1.heap.size; omega) | exact HS5.out | exact three_grown (by assumption) hgrow3 (HN2.out _ hq2) (HN2.out _ hq2) (HN2.out _ hq3) | exact three_below (by assumption) hb2 | exact ⟨cd0, cd1, hx⟩ | go_keep
        clear hK K
        try simp only [Act.put, List.setIfInBounds_toArray, List.set_cons_zero, List.set_cons_succ]
        refine wpAnyH_ready (rs := [1, 12]) (by kernel_rfl) (by simp) ?_
        refine AllReadyH.cons rfl (fun K hK => ?_) ?_
        · go_simp
          refine hK.out _ _ ?_ (fun hHeld => ?_)
          · first | exact three_set HS5.out (by show w.heap.size ≠ w1.heap.size; omega) (by show w.heap.size ≠ w1.heap.size; omega) (by show b ≠ w1.heap.size; omega) | exact HS5.out | exact three_grown (by assumption) hgrow3 (HN2.out _ hq2) (HN2.out _ hq2) (HN2.out _ hq3) | exact three_below (by assumption) hb2 | exact ⟨cd0, cd1, hx⟩ | go_keep
          clear hK K
          try simp only [Act.put, List.setIfInBounds_toArray, List.set_cons_zero, List.set_cons_succ]
          refine wpAnyH_ready (rs := [12]) (by kernel_rfl) (by simp) ?_
          refine AllReadyH.cons rfl (fun K hK => ?_) AllReadyH.nil
          go_simp
          refine hK.out _ _ ?_ (fun hHeld => ?_)
          · first | exact three_set HS5.out (by show w.heap.size ≠ w1.heap.size; omega) (by show w.heap.size ≠ w1.heap.size; omega) (by show b ≠ w1.heap.size; omega) | exact HS5.out | exact three_grown (by assumption) hgrow3 (HN2.out _ hq2) (HN2.out _ hq2) (HN2.out _ hq3) | exact three_below (by assumption) hb2 | exact ⟨cd0, cd1, hx⟩ | go_keep
          clear hK K
          try simp only [Act.put, List.setIfInBounds_toArray, List.set_cons_zero, List.set_cons_succ]
          refine wpAnyH_ready (rs := [13]) (by kernel_rfl) (by simp) ?_
          refine AllReadyH.cons rfl (fun K hK => ?_) AllReadyH.nil
          refine step_append_lies _ (by rfl) _ _ 39 (by rfl) wr.heap.size 2 i0 (.int .i64 0) 1 8 Tryd.underlying39 hi0 hz0 hz1 hz2 (by rfl) (by decide) (.slice a2 r c2) r _ (by rfl) (by first | exact hO2.out.alloc _ | exact hO2.out) _ 1 1 [.int .i64 (intN tab k)] (by rfl) (by rfl) (by first | exact cell_one_new _ _ _ | exact news_below (cell_one_new _ _ _) hb2 | exact news_below (news_below (cell_one_new wr _ _) ((QW.refl _).drew.below _)) hb2) (by simp [Value.oneCell']) (by omega) (by unfold maxLen; omega) (by omega) (by have := hB2.out.size; first | omega | (simp; omega)) _ rfl ?_; intro g3 cap3 w3 hown3 hgrow3 hat3 hlt3; have hB3 : Hid (Below wr.heap.size wr w3) := Lib.hid (by first | exact (hB2.out.alloc hB2.out.size _).grown hgrow3 (by have := hB2.out.size; simp; omega) (fun q hq => (hO2.out.lt q hq).1) | exact hB2.out.grown hgrow3 hB2.out.size (fun q hq => (hO2.out.lt q hq).1)); have hO3 := Lib.hid hown3; have ce3 := below_cell hB3.out ce; have ce3a := below_cell ((Below.refl w3.heap.size w3).alloc (Nat.le_refl _) (.cells #[.slice (some ⟨g3, 0, none⟩) (r + 1) cap3] 39)) ce3; clear hown3
          refine hK.out _ _ ?_ (fun hHeld => ?_)
          · first | exact three_set HS5.out (by show w.heap.size ≠ w1.heap.size; omega) (by show w.heap.size ≠ w1.heap.size; omega) (by show b ≠ w1.heap.size; omega) | exact HS5.out | exact three_grown (by assumption) hgrow3 (HN2.out _ hq2) (HN2.out _ hq2) (HN2.out _ hq3) | exact three_below (by assumption) hb2 | exact ⟨cd0, cd1, hx⟩ | go_keep
          clear hK K
          try simp only [Act.put, List.setIfInBounds_toArray, List.set_cons_zero, List.set_cons_succ]
          refine wpAnyH_ready (rs := [14]) (by kernel_rfl) (by simp) ?_
          refine AllReadyH.cons rfl (fun K hK => ?_) AllReadyH.nil
          go_simp
          refine hK.out _ _ ?_ (fun hHeld => ?_)
          · first | exact three_set HS5.out (by show w.heap.size ≠ w1.heap.size; omega) (by show w.heap.size ≠ w1.heap.size; omega) (by show b ≠ w1.heap.size; omega) | exact HS5.out | exact three_grown (by assumption) hgrow3 (HN2.out _ hq2) (HN2.out _ hq2) (HN2.out _ hq3) | exact three_below (by assumption) hb2 | exact ⟨cd0, cd1, hx⟩ | go_keep
          clear hK K
          try simp only [Act.put, List.setIfInBounds_toArray, List.set_cons_zero, List.set_cons_succ]
          refine wpAnyH_ready (rs := [15]) (by kernel_rfl) (by simp) ?_
          refine AllReadyH.cons rfl (fun K hK => ?_) AllReadyH.nil
          refine step_append_lies _ (by rfl) _ _ 23 (by rfl) (w1.heap.size + 1) 39 j0 (.slice none 0 0) 1 24 Tryd.underlying23 hj0 hy0 hy1 hy2 (by rfl) (by decide) (.slice a' n' c') k _ (by rfl) ((ownsRow_below HG.out.outer hB3.out).alloc _) _ 1 1 [.slice (some ⟨g3, 0, none⟩) (r + 1) cap3] (by rfl) (by rfl) (cell_one_new _ _ _) (by simp [Value.oneCell']) (by omega) (by unfold maxLen; omega) (by omega) (by have := hB3.out.size; simp; omega) _ rfl ?_; intro g5 cap5 w5 hown5 hgrow5 hat5 hlt5; have HS5 := Lib.hid (three_grown (three_below ⟨cd0, cd1, hx⟩ (hB3.out.alloc hB3.out.size (.cells #[.slice (some ⟨g3, 0, none⟩) (r + 1) cap3] 39))) hgrow5 (Ne.symm (HF.out _ hq4)) (Ne.symm (HF.out _ hq4)) (Ne.symm (HF.out _ hq5))); have hb5 := ((HB.out.below hB3.out).alloc (.cells #[.slice (some ⟨g3, 0, none⟩) (r + 1) cap3] 39)).grown hgrow5 (HF.out _ (by omega)); have fe5 := hb5.free 1; have ce5 := hb5.c1; have HB5 := Lib.hid hb5; have HO5 := Lib.hid hown5; have HR5 := Lib.hid hgrow5; clear hb5 hown5
          refine hK.out _ _ ?_ (fun hHeld => ?_)
          · first | exact three_set HS5.out (by show w.heap.size ≠ w1.heap.size; omega) (by show w.heap.size ≠ w1.heap.size; omega) (by show b ≠ w1.heap.size; omega) | exact HS5.out | exact three_grown (by assumption) hgrow3 (HN2.out _ hq2) (HN2.out _ hq2) (HN2.out _ hq3) | exact three_below (by assumption) hb2 | exact ⟨cd0, cd1, hx⟩ | go_keep
          clear hK K
          try simp only [Act.put, List.setIfInBounds_toArray, List.set_cons_zero, List.set_cons_succ]
          refine wpAnyH_take (i := 16) (v := ?_) rfl (by kernel_rfl) (by kernel_rfl) (by kernel_rfl) (fun _ _ _ h => h) (Or.inl ⟨by rfl, ?_⟩) (by assumption) ?_
          rotate_left
          · intro wS hSw
            try dsimp only at hSw
            go_simp
            try with_reducible rfl
          try simp only [Act.put, List.setIfInBounds_toArray, List.set_cons_zero, List.set_cons_succ]
          refine wpAnyH_ready (rs := [17]) (by kernel_rfl) (by simp) ?_
          refine AllReadyH.cons rfl (fun K hK => ?_) AllReadyH.nil
          go_simp
          refine hK.out _ _ ?_ (fun hHeld => ?_)
          · first | exact three_set HS5.out (by show w.heap.size ≠ w1.heap.size; omega) (by show w.heap.size ≠ w1.heap.size; omega) (by show b ≠ w1.heap.size; omega) | exact HS5.out | exact three_grown (by assumption) hgrow3 (HN2.out _ hq2) (HN2.out _ hq2) (HN2.out _ hq3) | exact three_below (by assumption) hb2 | exact ⟨cd0, cd1, hx⟩ | go_keep
          clear hK K
          try simp only [Act.put, List.setIfInBounds_toArray, List.set_cons_zero, List.set_cons_succ]
          refine wpAnyH_done (by kernel_rfl) ?_ _
          refine NoPanic.normal ?_
          have hr5 : OwnRow (w3.alloc (.cells #[.slice (some ⟨g3, 0, none⟩) (r + 1) cap3] 39)) wr.heap.size (.slice (some ⟨g3, 0, none⟩) (r + 1) cap3) (digs s r k ++ [intN tab k]) := by
            refine OwnRow.below (w := w3) ?_ ((Below.refl _ _).alloc (Nat.le_refl _) _)
            unfold OwnRow
            rw [List.length_append, digs_len, List.map_append]
            exact hO3.out
          have hg5 := Lib.hid (HG.out.grow (hB3.out.alloc hB3.out.size (.cells #[.slice (some ⟨g3, 0, none⟩) (r + 1) cap3] 39)) hr5 HS.out HO5.out HR5.out)
          have hW5 := Lib.hid ((HW.out.trans ((hB3.out.alloc hB3.out.size (.cells #[.slice (some ⟨g3, 0, none⟩) (r + 1) cap3] 39)).mono HW.out.size)).grown HR5.out (by have := hB3.out.size; have := HS.out; simp; omega) (fun q hq => by have := (HG.out.outer.lt q hq).1; omega))
          have hs5 : Hid (w1.heap.size + 1 ≤ w5.heap.size) := Lib.hid (by have h1 := HR5.out.size; have h2 := hB3.out.size; have h3 := HS.out; simp at h1; omega)
          clear hr5 hgrow3 hgrow5 ce2 ce2a ce3 ce3a ce5 fe5 ce cea cd0 cd1 hx
          go_wp2
          go_roundw
          case rel =>
            refine ⟨k + 1, some ⟨g5, 0, none⟩, k + 1, cap5, _, by omega, by go_num, HB5.out.set1 _, ((hg5.out.same (by simp [World.setCell]) fun g hg _ => Below.heap_setCell _ _ _ _ (by show g ≠ w1.heap.size; omega)).full).congr fun i hi => ?_, hW5.out.setCell (Nat.le_refl _) _, by have := hs5.out; simpa [World.setCell] using this⟩
            by_cases hik : i = k
            · subst hik; simp
            · simp [hik]
          case measure => simp [intOf]; omega
        refine AllReadyH.cons rfl (fun K hK => ?_) AllReadyH.nil
        go_simp
        refine hK.out _ _ ?_ (fun hHeld => ?_)
        · first | exact three_set HS5.out (by show w.heap.size ≠ w1.heap.size; omega) (by show w.heap.size ≠ w1.heap.size; omega) (by show b ≠ w1.heap.size; omega) | exact HS5.out | exact three_grown (by assumption) hgrow3 (HN2.out _ hq2) (HN2.out _ hq2) (HN2.out _ hq3) | exact three_below (by assumption) hb2 | exact ⟨cd0, cd1, hx⟩ | go_keep
        clear hK K
        try simp only [Act.put, List.setIfInBounds_toArray, List.set_cons_zero, List.set_cons_succ]
        refine wpAnyH_ready (rs := [1, 13]) (by kernel_rfl) (by simp) ?_
        refine AllReadyH.cons rfl (fun K hK => ?_) ?_
        · go_simp
          refine hK.out _ _ ?_ (fun hHeld => ?_)
          · first | exact three_set HS5.out (by show w.heap.size ≠ w1.heap.size; omega) (by show w.heap.size ≠ w1.heap.size; omega) (by show b ≠ w1.heap.size; omega) | exact HS5.out | exact three_grown (by assumption) hgrow3 (HN2.out _ hq2) (HN2.out _ hq2) (HN2.out _ hq3) | exact three_below (by assumption) hb2 | exact ⟨cd0, cd1, hx⟩ | go_keep
          clear hK K
          try simp only [Act.put, List.setIfInBounds_toArray, List.set_cons_zero, List.set_cons_succ]
          refine wpAnyH_ready (rs := [13]) (by kernel_rfl) (by simp) ?_
          refine AllReadyH.cons rfl (fun K hK => ?_) AllReadyH.nil
          refine step_append_lies _ (by rfl) _ _ 39 (by rfl) wr.heap.size 2 i0 (.int .i64 0) 1 8 Tryd.underlying39 hi0 hz0 hz1 hz2 (by rfl) (by decide) (.slice a2 r c2) r _ (by rfl) (by first | exact hO2.out.alloc _ | exact hO2.out) _ 1 1 [.int .i64 (intN tab k)] (by rfl) (by rfl) (by first | exact cell_one_new _ _ _ | exact news_below (cell_one_new _ _ _) hb2 | exact news_below (news_below (cell_one_new wr _ _) ((QW.refl _).drew.below _)) hb2) (by simp [Value.oneCell']) (by omega) (by unfold maxLen; omega) (by omega) (by have := hB2.out.size; first | omega | (simp; omega)) _ rfl ?_; intro g3 cap3 w3 hown3 hgrow3 hat3 hlt3; have hB3 : Hid (Below wr.heap.size wr w3) := Lib.hid (by first | exact (hB2.out.alloc hB2.out.size _).grown hgrow3 (by have := hB2.out.size; simp; omega) (fun q hq => (hO2.out.lt q hq).1) | exact hB2.out.grown hgrow3 hB2.out.size (fun q hq => (hO2.out.lt q hq).1)); have hO3 := Lib.hid hown3; have ce3 := below_cell hB3.out ce; have ce3a := below_cell ((Below.refl w3.heap.size w3).alloc (Nat.le_refl _) (.cells #[.slice (some ⟨g3, 0, none⟩) (r + 1) cap3] 39)) ce3; clear hown3
          refine hK.out _ _ ?_ (fun hHeld => ?_)
          · first | exact three_set HS5.out (by show w.heap.size ≠ w1.heap.size; omega) (by show w.heap.size ≠ w1.heap.size; omega) (by show b ≠ w1.heap.size; omega) | exact HS5.out | exact three_grown (by assumption) hgrow3 (HN2.out _ hq2) (HN2.out _ hq2) (HN2.out _ hq3) | exact three_below (by assumption) hb2 | exact ⟨cd0, cd1, hx⟩ | go_keep
          clear hK K
          try simp only [Act.put, List.setIfInBounds_toArray, List.set_cons_zero, List.set_cons_succ]
          refine wpAnyH_ready (rs := [14]) (by kernel_rfl) (by simp) ?_
          refine AllReadyH.cons rfl (fun K hK => ?_) AllReadyH.nil
          go_simp
          refine hK.out _ _ ?_ (fun hHeld => ?_)
          · first | exact three_set HS5.out (by show w.heap.size ≠ w1.heap.size; omega) (by show w.heap.size ≠ w1.heap.size; omega) (by show b ≠ w1.heap.size; omega) | exact HS5.out | exact three_grown (by assumption) hgrow3 (HN2.out _ hq2) (HN2.out _ hq2) (HN2.out _ hq3) | exact three_below (by assumption) hb2 | exact ⟨cd0, cd1, hx⟩ | go_keep
          clear hK K
          try simp only [Act.put, List.setIfInBounds_toArray, List.set_cons_zero, List.set_cons_succ]
          refine wpAnyH_ready (rs := [15]) (by kernel_rfl) (by simp) ?_
          refine AllReadyH.cons rfl (fun K hK => ?_) AllReadyH.nil
          refine step_append_lies _ (by rfl) _ _ 23 (by rfl) (w1.heap.size + 1) 39 j0 (.slice none 0 0) 1 24 Tryd.underlying23 hj0 hy0 hy1 hy2 (by rfl) (by decide) (.slice a' n' c') k _ (by rfl) ((ownsRow_below HG.out.outer hB3.out).alloc _) _ 1 1 [.slice (some ⟨g3, 0, none⟩) (r + 1) cap3] (by rfl) (by rfl) (cell_one_new _ _ _) (by simp [Value.oneCell']) (by omega) (by unfold maxLen; omega) (by omega) (by have := hB3.out.size; simp; omega) _ rfl ?_; intro g5 cap5 w5 hown5 hgrow5 hat5 hlt5; have HS5 := Lib.hid (three_grown (three_below ⟨cd0, cd1, hx⟩ (hB3.out.alloc hB3.out.size (.cells #[.slice (some ⟨g3, 0, none⟩) (r + 1) cap3] 39))) hgrow5 (Ne.symm (HF.out _ hq4)) (Ne.symm (HF.out _ hq4)) (Ne.symm (HF.out _ hq5))); have hb5 := ((HB.out.below hB3.out).alloc (.cells #[.slice (some ⟨g3, 0, none⟩) (r + 1) cap3] 39)).grown hgrow5 (HF.out _ (by omega)); have fe5 := hb5.free 1; have ce5 := hb5.c1; have HB5 := Lib.hid hb5; have HO5 := Lib.hid hown5; have HR5 := Lib.hid hgrow5; clear hb5 hown5
          refine hK.out _ _ ?_ (fun hHeld => ?_)
          · first | exact three_set HS5.out (by show w.heap.size ≠ w1.heap.size; omega) (by show w.heap.size ≠ w1.heap.size; omega) (by show b ≠ w1.heap.size; omega) | exact HS5.out | exact three_grown (by assumption) hgrow3 (HN2.out _ hq2) (HN2.out _ hq2) (HN2.out _ hq3) | exact three_below (by assumption) hb2 | exact ⟨cd0, cd1, hx⟩ | go_keep
          clear hK K
          try simp only [Act.put, List.setIfInBounds_toArray, List.set_cons_zero, List.set_cons_succ]
          refine wpAnyH_take (i := 16) (v := ?_) rfl (by kernel_rfl) (by kernel_rfl) (by kernel_rfl) (fun _ _ _ h => h) (Or.inl ⟨by rfl, ?_⟩) (by assumption) ?_
          rotate_left
          · intro wS hSw
            try dsimp only at hSw
            go_simp
            try with_reducible rfl
          try simp only [Act.put, List.setIfInBounds_toArray, List.set_cons_zero, List.set_cons_succ]
          refine wpAnyH_ready (rs := [17]) (by kernel_rfl) (by simp) ?_
          refine AllReadyH.cons rfl (fun K hK => ?_) AllReadyH.nil
          go_simp
          refine hK.out _ _ ?_ (fun hHeld => ?_)
          · first | exact three_set HS5.out (by show w.heap.size ≠ w1.heap.size; omega) (by show w.heap.size ≠ w1.heap.size; omega) (by show b ≠ w1.heap.size; omega) | exact HS5.out | exact three_grown (by assumption) hgrow3 (HN2.out _ hq2) (HN2.out _ hq2) (HN2.out _ hq3) | exact three_below (by assumption) hb2 | exact ⟨cd0, cd1, hx⟩ | go_keep
          clear hK K
          try simp only [Act.put, List.setIfInBounds_toArray, List.set_cons_zero, List.set_cons_succ]
          refine wpAnyH_done (by kernel_rfl) ?_ _
          refine NoPanic.normal ?_
          have hr5 : OwnRow (w3.alloc (.cells #[.slice (some ⟨g3, 0, none⟩) (r + 1) cap3] 39)) wr.heap.size (.slice (some ⟨g3, 0, none⟩) (r + 1) cap3) (digs s r k ++ [intN tab k]) := by
            refine OwnRow.below (w := w3) ?_ ((Below.refl _ _).alloc (Nat.le_refl _) _)
            unfold OwnRow
            rw [List.length_append, digs_len, List.map_append]
            exact hO3.out
          have hg5 := Lib.hid (HG.out.grow (hB3.out.alloc hB3.out.size (.cells #[.slice (some ⟨g3, 0, none⟩) (r + 1) cap3] 39)) hr5 HS.out HO5.out HR5.out)
          have hW5 := Lib.hid ((HW.out.trans ((hB3.out.alloc hB3.out.size (.cells #[.slice (some ⟨g3, 0, none⟩) (r + 1) cap3] 39)).mono HW.out.size)).grown HR5.out (by have := hB3.out.size; have := HS.out; simp; omega) (fun q hq => by have := (HG.out.outer.lt q hq).1; omega))
          have hs5 : Hid (w1.heap.size + 1 ≤ w5.heap.size) := Lib.hid (by have h1 := HR5.out.size; have h2 := hB3.out.size; have h3 := HS.out; simp at h1; omega)
          clear hr5 hgrow3 hgrow5 ce2 ce2a ce3 ce3a ce5 fe5 ce cea cd0 cd1 hx
          go_wp2
          go_roundw
          case rel =>
            refine ⟨k + 1, some ⟨g5, 0, none⟩, k + 1, cap5, _, by omega, by go_num, HB5.out.set1 _, ((hg5.out.same (by simp [World.setCell]) fun g hg _ => Below.heap_setCell _ _ _ _ (by show g ≠ w1.heap.size; omega)).full).congr fun i hi => ?_, hW5.out.setCell (Nat.le_refl _) _, by have := hs5.out; simpa [World.setCell] using this⟩
            by_cases hik : i = k
            · subst hik; simp
            · simp [hik]
          case measure => simp [intOf]; omega
        refine AllReadyH.cons rfl (fun K hK => ?_) AllReadyH.nil
        refine step_append_lies _ (by rfl) _ _ 39 (by rfl) wr.heap.size 2 i0 (.int .i64 0) 1 8 Tryd.underlying39 hi0 hz0 hz1 hz2 (by rfl) (by decide) (.slice a2 r c2) r _ (by rfl) (by first | exact hO2.out.alloc _ | exact hO2.out) _ 1 1 [.int .i64 (intN tab k)] (by rfl) (by rfl) (by first | exact cell_one_new _ _ _ | exact news_below (cell_one_new _ _ _) hb2 | exact news_below (news_below (cell_one_new wr _ _) ((QW.refl _).drew.below _)) hb2) (by simp [Value.oneCell']) (by omega) (by unfold maxLen; omega) (by omega) (by have := hB2.out.size; first | omega | (simp; omega)) _ rfl ?_; intro g3 cap3 w3 hown3 hgrow3 hat3 hlt3; have hB3 : Hid (Below wr.heap.size wr w3) := Lib.hid (by first | exact (hB2.out.alloc hB2.out.size _).grown hgrow3 (by have := hB2.out.size; simp; omega) (fun q hq => (hO2.out.lt q hq).1) | exact hB2.out.grown hgrow3 hB2.out.size (fun q hq => (hO2.out.lt q hq).1)); have hO3 := Lib.hid hown3; have ce3 := below_cell hB3.out ce; have ce3a := below_cell ((Below.refl w3.heap.size w3).alloc (Nat.le_refl _) (.cells #[.slice (some ⟨g3, 0, none⟩) (r + 1) cap3] 39)) ce3; clear hown3
        refine hK.out _ _ ?_ (fun hHeld => ?_)
        · first | exact three_set HS5.out (by show w.heap.size ≠ w1.heap.size; omega) (by show w.heap.size ≠ w1.heap.size; omega) (by show b ≠ w1.heap.size; omega) | exact HS5.out | exact three_grown (by assumption) hgrow3 (HN2.out _ hq2) (HN2.out _ hq2) (HN2.out _ hq3) | exact three_below (by assumption) hb2 | exact ⟨cd0, cd1, hx⟩ | go_keep
        clear hK K
        try simp only [Act.put, List.setIfInBounds_toArray, List.set_cons_zero, List.set_cons_succ]
        refine wpAnyH_ready (rs := [1, 14]) (by kernel_rfl) (by simp) ?_
        refine AllReadyH.cons rfl (fun K hK => ?_) ?_
        · go_simp
          refine hK.out _ _ ?_ (fun hHeld => ?_)
          · first | exact three_set HS5.out (by show w.heap.size ≠ w1.heap.size; omega) (by show w.heap.size ≠ w1.heap.size; omega) (by show b ≠ w1.heap.size; omega) | exact HS5.out | exact three_grown (by assumption) hgrow3 (HN2.out _ hq2) (HN2.out _ hq2) (HN2.out _ hq3) | exact three_below (by assumption) hb2 | exact ⟨cd0, cd1, hx⟩ | go_keep
          clear hK K
          try simp only [Act.put, List.setIfInBounds_toArray, List.set_cons_zero, List.set_cons_succ]
          refine wpAnyH_ready (rs := [14]) (by kernel_rfl) (by simp) ?_
          refine AllReadyH.cons rfl (fun K hK => ?_) AllReadyH.nil
          go_simp
          refine hK.out _ _ ?_ (fun hHeld => ?_)
          · first | exact three_set HS5.out (by show w.heap.size ≠ w1.heap.size; omega) (by show w.heap.size ≠ w1.heap.size; omega) (by show b ≠ w1.heap.size; omega) | exact HS5.out | exact three_grown (by assumption) hgrow3 (HN2.out _ hq2) (HN2.out _ hq2) (HN2.out _ hq3) | exact three_below (by assumption) hb2 | exact ⟨cd0, cd1, hx⟩ | go_keep
          clear hK K
          try simp only [Act.put, List.setIfInBounds_toArray, List.set_cons_zero, List.set_cons_succ]
          refine wpAnyH_ready (rs := [15]) (by kernel_rfl) (by simp) ?_
          refine AllReadyH.cons rfl (fun K hK => ?_) AllReadyH.nil
          refine step_append_lies _ (by rfl) _ _ 23 (by rfl) (w1.heap.size + 1) 39 j0 (.slice none 0 0) 1 24 Tryd.underlying23 hj0 hy0 hy1 hy2 (by rfl) (by decide) (.slice a' n' c') k _ (by rfl) ((ownsRow_below HG.out.outer hB3.out).alloc _) _ 1 1 [.slice (some ⟨g3, 0, none⟩) (r + 1) cap3] (by rfl) (by rfl) (cell_one_new _ _ _) (by simp [Value.oneCell']) (by omega) (by unfold maxLen; omega) (by omega) (by have := hB3.out.size; simp; omega) _ rfl ?_; intro g5 cap5 w5 hown5 hgrow5 hat5 hlt5; have HS5 := Lib.hid (three_grown (three_below ⟨cd0, cd1, hx⟩ (hB3.out.alloc hB3.out.size (.cells #[.slice (some ⟨g3, 0, none⟩) (r + 1) cap3] 39))) hgrow5 (Ne.symm (HF.out _ hq4)) (Ne.symm (HF.out _ hq4)) (Ne.symm (HF.out _ hq5))); have hb5 := ((HB.out.below hB3.out).alloc (.cells #[.slice (some ⟨g3, 0, none⟩) (r + 1) cap3] 39)).grown hgrow5 (HF.out _ (by omega)); have fe5 := hb5.free 1; have ce5 := hb5.c1; have HB5 := Lib.hid hb5; have HO5 := Lib.hid hown5; have HR5 := Lib.hid hgrow5; clear hb5 hown5
          refine hK.out _ _ ?_ (fun hHeld => ?_)
          · first | exact three_set HS5.out (by show w.heap.size ≠ w1.heap.size; omega) (by show w.heap.size ≠ w1.heap.size; omega) (by show b ≠ w1.heap.size; omega) | exact HS5.out | exact three_grown (by assumption) hgrow3 (HN2.out _ hq2) (HN2.out _ hq2) (HN2.out _ hq3) | exact three_below (by assumption) hb2 | exact ⟨cd0, cd1, hx⟩ | go_keep
          clear hK K
          try simp only [Act.put, List.setIfInBounds_toArray, List.set_cons_zero, List.set_cons_succ]
          refine wpAnyH_take (i := 16) (v := ?_) rfl (by kernel_rfl) (by kernel_rfl) (by kernel_rfl) (fun _ _ _ h => h) (Or.inl ⟨by rfl, ?_⟩) (by assumption) ?_
          rotate_left
          · intro wS hSw
            try dsimp only at hSw
            go_simp
            try with_reducible rfl
          try simp only [Act.put, List.setIfInBounds_toArray, List.set_cons_zero, List.set_cons_succ]
          refine wpAnyH_ready (rs := [17]) (by kernel_rfl) (by simp) ?_
          refine AllReadyH.cons rfl (fun K hK => ?_) AllReadyH.nil
          go_simp
          refine hK.out _ _ ?_ (fun hHeld => ?_)
          · first | exact three_set HS5.out (by show w.heap.size ≠ w1.heap.size; omega) (by show w.heap.size ≠ w1.heap.size; omega) (by show b ≠ w1.heap.size; omega) | exact HS5.out | exact three_grown (by assumption) hgrow3 (HN2.out _ hq2) (HN2.out _ hq2) (HN2.out _ hq3) | exact three_below (by assumption) hb2 | exact ⟨cd0, cd1, hx⟩ | go_keep
          clear hK K
          try simp only [Act.put, List.setIfInBounds_toArray, List.set_cons_zero, List.set_cons_succ]
          refine wpAnyH_done (by kernel_rfl) ?_ _
          refine NoPanic.normal ?_
          have hr5 : OwnRow (w3.alloc (.cells #[.slice (some ⟨g3, 0, none⟩) (r + 1) cap3] 39)) wr.heap.size (.slice (some ⟨g3, 0, none⟩) (r + 1) cap3) (digs s r k ++ [intN tab k]) := by
            refine OwnRow.below (w := w3) ?_ ((Below.refl _ _).alloc (Nat.le_refl _) _)
            unfold OwnRow
            rw [List.length_append, digs_len, List.map_append]
            exact hO3.out
          have hg5 := Lib.hid (HG.out.grow (hB3.out.alloc hB3.out.size (.cells #[.slice (some ⟨g3, 0, none⟩) (r + 1) cap3] 39)) hr5 HS.out HO5.out HR5.out)
          have hW5 := Lib.hid ((HW.out.trans ((hB3.out.alloc hB3.out.size (.cells #[.slice (some ⟨g3, 0, none⟩) (r + 1) cap3] 39)).mono HW.out.size)).grown HR5.out (by have := hB3.out.size; have := HS.out; simp; omega) (fun q hq => by have := (HG.out.outer.lt q hq).1; omega))
          have hs5 : Hid (w1.heap.size + 1 ≤ w5.heap.size) := Lib.hid (by have h1 := HR5.out.size; have h2 := hB3.out.size; have h3 := HS.out; simp at h1; omega)
          clear hr5 hgrow3 hgrow5 ce2 ce2a ce3 ce3a ce5 fe5 ce cea cd0 cd1 hx
          go_wp2
          go_roundw
          case rel =>
            refine ⟨k + 1, some ⟨g5, 0, none⟩, k + 1, cap5, _, by omega, by go_num, HB5.out.set1 _, ((hg5.out.same (by simp [World.setCell]) fun g hg _ => Below.heap_setCell _ _ _ _ (by show g ≠ w1.heap.size; omega)).full).congr fun i hi => ?_, hW5.out.setCell (Nat.le_refl _) _, by have := hs5.out; simpa [World.setCell] using this⟩
            by_cases hik : i = k
            · subst hik; simp
            · simp [hik]
          case measure => simp [intOf]; omega
        refine AllReadyH.cons rfl (fun K hK => ?_) AllReadyH.nil
        go_simp
        refine hK.out _ _ ?_ (fun hHeld => ?_)
        · first | exact three_set HS5.out (by show w.heap.size ≠ w1.heap.size; omega) (by show w.heap.size ≠ w1.heap.size; omega) (by show b ≠ w1.heap.size; omega) | exact HS5.out | exact three_grown (by assumption) hgrow3 (HN2.out _ hq2) (HN2.out _ hq2) (HN2.out _ hq3) | exact three_below (by assumption) hb2 | exact ⟨cd0, cd1, hx⟩ | go_keep
        clear hK K
        try simp only [Act.put, List.setIfInBounds_toArray, List.set_cons_zero, List.set_cons_succ]
        refine wpAnyH_ready (rs := [1]) (by kernel_rfl) (by simp) ?_
        refine AllReadyH.cons rfl (fun K hK => ?_) AllReadyH.nil
        go_simp
        refine hK.out _ _ ?_ (fun hHeld => ?_)
        · first | exact three_set HS5.out (by show w.heap.size ≠ w1.heap.size; omega) (by show w.heap.size ≠ w1.heap.size; omega) (by show b ≠ w1.heap.size; omega) | exact HS5.out | exact three_grown (by assumption) hgrow3 (HN2.out _ hq2) (HN2.out _ hq2) (HN2.out _ hq3) | exact three_below (by assumption) hb2 | exact ⟨cd0, cd1, hx⟩ | go_keep
        clear hK K
        try simp only [Act.put, List.setIfInBounds_toArray, List.set_cons_zero, List.set_cons_succ]
        refine wpAnyH_ready (rs := [15]) (by kernel_rfl) (by simp) ?_
        refine AllReadyH.cons rfl (fun K hK => ?_) AllReadyH.nil
        refine step_append_lies _ (by rfl) _ _ 23 (by rfl) (w1.heap.size + 1) 39 j0 (.slice none 0 0) 1 24 Tryd.underlying23 hj0 hy0 hy1 hy2 (by rfl) (by decide) (.slice a' n' c') k _ (by rfl) ((ownsRow_below HG.out.outer hB3.out).alloc _) _ 1 1 [.slice (some ⟨g3, 0, none⟩) (r + 1) cap3] (by rfl) (by rfl) (cell_one_new _ _ _) (by simp [Value.oneCell']) (by omega) (by unfold maxLen; omega) (by omega) (by have := hB3.out.size; simp; omega) _ rfl ?_; intro g5 cap5 w5 hown5 hgrow5 hat5 hlt5; have HS5 := Lib.hid (three_grown (three_below ⟨cd0, cd1, hx⟩ (hB3.out.alloc hB3.out.size (.cells #[.slice (some ⟨g3, 0, none⟩) (r + 1) cap3] 39))) hgrow5 (Ne.symm (HF.out _ hq4)) (Ne.symm (HF.out _ hq4)) (Ne.symm (HF.out _ hq5))); have hb5 := ((HB.out.below hB3.out).alloc (.cells #[.slice (some ⟨g3, 0, none⟩) (r + 1) cap3] 39)).grown hgrow5 (HF.out _ (by omega)); have fe5 := hb5.free 1; have ce5 := hb5.c1; have HB5 := Lib.hid hb5; have HO5 := Lib.hid hown5; have HR5 := Lib.hid hgrow5; clear hb5 hown5
        refine hK.out _ _ ?_ (fun hHeld => ?_)
        · first | exact three_set HS5.out (by show w.heap.size ≠ w1.heap.size; omega) (by show w.heap.size ≠ w1.heap.size; omega) (by show b ≠ w1.heap.size; omega) | exact HS5.out | exact three_grown (by assumption) hgrow3 (HN2.out _ hq2) (HN2.out _ hq2) (HN2.out _ hq3) | exact three_below (by assumption) hb2 | exact ⟨cd0, cd1, hx⟩ | go_keep
        clear hK K
        try simp only [Act.put, List.setIfInBounds_toArray, List.set_cons_zero, List.set_cons_succ]
        refine wpAnyH_take (i := 16) (v := ?_) rfl (by kernel_rfl) (by kernel_rfl) (by kernel_rfl) (fun _ _ _ h => h) (Or.inl ⟨by rfl, ?_⟩) (by assumption) ?_
        rotate_left
        · intro wS hSw
          try dsimp only at hSw
          go_simp
          try with_reducible rfl
        try simp only [Act.put, List.setIfInBounds_toArray, List.set_cons_zero, List.set_cons_succ]
        refine wpAnyH_ready (rs := [17]) (by kernel_rfl) (by simp) ?_
        refine AllReadyH.cons rfl (fun K hK => ?_) AllReadyH.nil
        go_simp
        refine hK.out _ _ ?_ (fun hHeld => ?_)
        · first | exact three_set HS5.out (by show w.heap.size ≠ w1.heap.size; omega) (by show w.heap.size ≠ w1.heap.size; omega) (by show b ≠ w1.heap.size; omega) | exact HS5.out | exact three_grown (by assumption) hgrow3 (HN2.out _ hq2) (HN2.out _ hq2) (HN2.out _ hq3) | exact three_below (by assumption) hb2 | exact ⟨cd0, cd1, hx⟩ | go_keep
        clear hK K
        try simp only [Act.put, List.setIfInBounds_toArray, List.set_cons_zero, List.set_cons_succ]
        refine wpAnyH_done (by kernel_rfl) ?_ _
        refine NoPanic.normal ?_
        have hr5 : OwnRow (w3.alloc (.cells #[.slice (some ⟨g3, 0, none⟩) (r + 1) cap3] 39)) wr.heap.size (.slice (some ⟨g3, 0, none⟩) (r + 1) cap3) (digs s r k ++ [intN tab k]) := by
          refine OwnRow.below (w := w3) ?_ ((Below.refl _ _).alloc (Nat.le_refl _) _)
          unfold OwnRow
          rw [List.length_append, digs_len, List.map_append]
          exact hO3.out
        have hg5 := Lib.hid (HG.out.grow (hB3.out.alloc hB3.out.size (.cells #[.slice (some ⟨g3, 0, none⟩) (r + 1) cap3] 39)) hr5 HS.out HO5.out HR5.out)
        have hW5 := Lib.hid ((HW.out.trans ((hB3.out.alloc hB3.out.size (.cells #[.slice (some ⟨g3, 0, none⟩) (r + 1) cap3] 39)).mono HW.out.size)).grown HR5.out (by have := hB3.out.size; have := HS.out; simp; omega) (fun q hq => by have := (HG.out.outer.lt q hq).1; omega))
        have hs5 : Hid (w1.heap.size + 1 ≤ w5.heap.size) := Lib.hid (by have h1 := HR5.out.size; have h2 := hB3.out.size; have h3 := HS.out; simp at h1; omega)
        clear hr5 hgrow3 hgrow5 ce2 ce2a ce3 ce3a ce5 fe5 ce cea cd0 cd1 hx
        go_wp2
        go_roundw
        case rel =>
          refine ⟨k + 1, some ⟨g5, 0, none⟩, k + 1, cap5, _, by omega, by go_num, HB5.out.set1 _, ((hg5.out.same (by simp [World.setCell]) fun g hg _ => Below.heap_setCell _ _ _ _ (by show g ≠ w1.heap.size; omega)).full).congr fun i hi => ?_, hW5.out.setCell (Nat.le_refl _) _, by have := hs5.out; simpa [World.setCell] using this⟩
          by_cases hik : i = k
          · subst hik; simp
          · simp [hik]
        case measure => simp [intOf]; omega
      refine AllReadyH.cons rfl (fun K hK => ?_) AllReadyH.nil
      go_simp
      refine hK.out _ _ ?_ (fun hHeld => ?_)
      · first | exact three_set HS5.out (by show w.heap.size ≠ w1.heap.size; omega) (by show w.heap.size ≠ w1.heap.size; omega) (by show b ≠ w1.heap.size; omega) | exact HS5.out | exact three_grown (by assumption) hgrow3 (HN2.out _ hq2) (HN2.out _ hq2) (HN2.out _ hq3) | exact three_below (by assumption) hb2 | exact ⟨cd0, cd1, hx⟩ | go_keep
      clear hK K
      try simp only [Act.put, List.setIfInBounds_toArray, List.set_cons_zero, List.set_cons_succ]
      refine wpAnyH_ready (rs := [1, 6]) (by kernel_rfl) (by simp) ?_
      refine AllReadyH.cons rfl (fun K hK => ?_) ?_
      · go_simp
        refine hK.out _ _ ?_ (fun hHeld => ?_)
        · first | exact three_set HS5.out (by show w.heap.size ≠ w1.heap.size; omega) (by show w.heap.size ≠ w1.heap.size; omega) (by show b ≠ w1.heap.size; omega) | exact HS5.out | exact three_grown (by assumption) hgrow3 (HN2.out _ hq2) (HN2.out _ hq2) (HN2.out _ hq3) | exact three_below (by assumption) hb2 | exact ⟨cd0, cd1, hx⟩ | go_keep
        clear hK K
        try simp only [Act.put, List.setIfInBounds_toArray, List.set_cons_zero, List.set_cons_succ]
        refine wpAnyH_ready (rs := [6]) (by kernel_rfl) (by simp) ?_
        refine AllReadyH.cons rfl (fun K hK => ?_) AllReadyH.nil
        go_simp; go_at_call 42; refine (l01Digits s r k hs1 (by omega) (by omega) (by omega) _).mono ?_; rintro e w2 ⟨a2, c2, rfl, ho2, hb2⟩; have hO2 := Lib.hid (own_dig (B := wr.heap.size) ho2 (by simp)); have hB2 : Hid (Below wr.heap.size wr w2) := Lib.hid (by first | exact ((QW.refl wr).drew.below _).trans hb2 | exact (((QW.refl wr).drew.below _).alloc (Nat.le_refl _) _).trans (hb2.mono (by simp))); have HN2 := Lib.hid (own_far hO2.out); have ce2 := below_cell hB2.out ce; have ce2a := below_cell ((Below.refl w2.heap.size w2).alloc (Nat.le_refl _) (.cells #[.int .i64 (intN tab k)] 2)) ce2; clear ho2; try dsimp only
        refine hK.out _ _ ?_ (fun hHeld => ?_)
        · first | exact three_set HS5.out (by show w.heap.size ≠ w1.heap.size; omega) (by show w.heap.size ≠ w1.heap.size; omega) (by show b ≠ w1.heap.size; omega) | exact HS5.out | exact three_grown (by assumption) hgrow3 (HN2.out _ hq2) (HN2.out _ hq2) (HN2.out _ hq3) | exact three_below (by assumption) hb2 | exact ⟨cd0, cd1, hx⟩ | go_keep
        clear hK K
        try simp only [Act.put, List.setIfInBounds_toArray, List.set_cons_zero, List.set_cons_succ]
        refine wpAnyH_ready (rs := [13]) (by kernel_rfl) (by simp) ?_
        refine AllReadyH.cons rfl (fun K hK => ?_) AllReadyH.nil
        refine step_append_lies _ (by rfl) _ _ 39 (by rfl) wr.heap.size 2 i0 (.int .i64 0) 1 8 Tryd.underlying39 hi0 hz0 hz1 hz2 (by rfl) (by decide) (.slice a2 r c2) r _ (by rfl) (by first | exact hO2.out.alloc _ | exact hO2.out) _ 1 1 [.int .i64 (intN tab k)] (by rfl) (by rfl) (by first | exact cell_one_new _ _ _ | exact news_below (cell_one_new _ _ _) hb2 | exact news_below (news_below (cell_one_new wr _ _) ((QW.refl _).drew.below _)) hb2) (by simp [Value.oneCell']) (by omega) (by unfold maxLen; omega) (by omega) (by have := hB2.out.size; first | omega | (simp; omega)) _ rfl ?_; intro g3 cap3 w3 hown3 hgrow3 hat3 hlt3; have hB3 : Hid (Below wr.heap.size wr w3) := Lib.hid (by first | exact (hB2.out.alloc hB2.out.size _).grown hgrow3 (by have := hB2.out.size; simp; omega) (fun q hq => (hO2.out.lt q hq).1) | exact hB2.out.grown hgrow3 hB2.out.size (fun q hq => (hO2.out.lt q hq).1)); have hO3 := Lib.hid hown3; have ce3 := below_cell hB3.out ce; have ce3a := below_cell ((Below.refl w3.heap.size w3).alloc (Nat.le_refl _) (.cells #[.slice (some ⟨g3, 0, none⟩) (r + 1) cap3] 39)) ce3; clear hown3
        refine hK.out _ _ ?_ (fun hHeld => ?_)
        · first | exact three_set HS5.out (by show w.heap.size ≠ w1.heap.size; omega) (by show w.heap.size ≠ w1.heap.size; omega) (by show b ≠ w1.heap.size; omega) | exact HS5.out | exact three_grown (by assumption) hgrow3 (HN2.out _ hq2) (HN2.out _ hq2) (HN2.out _ hq3) | exact three_below (by assumption) hb2 | exact ⟨cd0, cd1, hx⟩ | go_keep
        clear hK K
        try simp only [Act.put, List.setIfInBounds_toArray, List.set_cons_zero, List.set_cons_succ]
        refine wpAnyH_ready (rs := [14]) (by kernel_rfl) (by simp) ?_
        refine AllReadyH.cons rfl (fun K hK => ?_) AllReadyH.nil
        go_simp
        refine hK.out _ _ ?_ (fun hHeld => ?_)
        · first | exact three_set HS5.out (by show w.heap.size ≠ w1.heap.size; omega) (by show w.heap.size ≠ w1.heap.size; omega) (by show b ≠ w1.heap.size; omega) | exact HS5.out | exact three_grown (by assumption) hgrow3 (HN2.out _ hq2) (HN2.out _ hq2) (HN2.out _ hq3) | exact three_below (by assumption) hb2 | exact ⟨cd0, cd1, hx⟩ | go_keep
        clear hK K
        try simp only [Act.put, List.setIfInBounds_toArray, List.set_cons_zero, List.set_cons_succ]
        refine wpAnyH_ready (rs := [15]) (by kernel_rfl) (by simp) ?_
        refine AllReadyH.cons rfl (fun K hK => ?_) AllReadyH.nil
        refine step_append_lies _ (by rfl) _ _ 23 (by rfl) (w1.heap.size + 1) 39 j0 (.slice none 0 0) 1 24 Tryd.underlying23 hj0 hy0 hy1 hy2 (by rfl) (by decide) (.slice a' n' c') k _ (by rfl) ((ownsRow_below HG.out.outer hB3.out).alloc _) _ 1 1 [.slice (some ⟨g3, 0, none⟩) (r + 1) cap3] (by rfl) (by rfl) (cell_one_new _ _ _) (by simp [Value.oneCell']) (by omega) (by unfold maxLen; omega) (by omega) (by have := hB3.out.size; simp; omega) _ rfl ?_; intro g5 cap5 w5 hown5 hgrow5 hat5 hlt5; have HS5 := Lib.hid (three_grown (three_below ⟨cd0, cd1, hx⟩ (hB3.out.alloc hB3.out.size (.cells #[.slice (some ⟨g3, 0, none⟩) (r + 1) cap3] 39))) hgrow5 (Ne.symm (HF.out _ hq4)) (Ne.symm (HF.out _ hq4)) (Ne.symm (HF.out _ hq5))); have hb5 := ((HB.out.below hB3.out).alloc (.cells #[.slice (some ⟨g3, 0, none⟩) (r + 1) cap3] 39)).grown hgrow5 (HF.out _ (by omega)); have fe5 := hb5.free 1; have ce5 := hb5.c1; have HB5 := Lib.hid hb5; have HO5 := Lib.hid hown5; have HR5 := Lib.hid hgrow5; clear hb5 hown5
        refine hK.out _ _ ?_ (fun hHeld => ?_)
        · first | exact three_set HS5.out (by show w.heap.size ≠ w1.heap.size; omega) (by show w.heap.size ≠ w1.heap.size; omega) (by show b ≠ w1.heap.size; omega) | exact HS5.out | exact three_grown (by assumption) hgrow3 (HN2.out _ hq2) (HN2.out _ hq2) (HN2.out _ hq3) | exact three_below (by assumption) hb2 | exact ⟨cd0, cd1, hx⟩ | go_keep
        clear hK K
        try simp only [Act.put, List.setIfInBounds_toArray, List.set_cons_zero, List.set_cons_succ]
        refine wpAnyH_take (i := 16) (v := ?_) rfl (by kernel_rfl) (by kernel_rfl) (by kernel_rfl) (fun _ _ _ h => h) (Or.inl ⟨by rfl, ?_⟩) (by assumption) ?_
        rotate_left
        · intro wS hSw
          try dsimp only at hSw
          go_simp
          try with_reducible rfl
        try simp only [Act.put, List.setIfInBounds_toArray, List.set_cons_zero, List.set_cons_succ]
        refine wpAnyH_ready (rs := [17]) (by kernel_rfl) (by simp) ?_
        refine AllReadyH.cons rfl (fun K hK => ?_) AllReadyH.nil
        go_simp
        refine hK.out _ _ ?_ (fun hHeld => ?_)
        · first | exact three_set HS5.out (by show w.heap.size ≠ w1.heap.size; omega) (by show w.heap.size ≠ w1.heap.size; omega) (by show b ≠ w1.heap.size; omega) | exact HS5.out | exact three_grown (by assumption) hgrow3 (HN2.out _ hq2) (HN2.out _ hq2) (HN2.out _ hq3) | exact three_below (by assumption) hb2 | exact ⟨cd0, cd1, hx⟩ | go_keep
        clear hK K
        try simp only [Act.put, List.setIfInBounds_toArray, List.set_cons_zero, List.set_cons_succ]
        refine wpAnyH_done (by kernel_rfl) ?_ _
        refine NoPanic.normal ?_
        have hr5 : OwnRow (w3.alloc (.cells #[.slice (some ⟨g3, 0, none⟩) (r + 1) cap3] 39)) wr.heap.size (.slice (some ⟨g3, 0, none⟩) (r + 1) cap3) (digs s r k ++ [intN tab k]) := by
          refine OwnRow.below (w := w3) ?_ ((Below.refl _ _).alloc (Nat.le_refl _) _)
          unfold OwnRow
          rw [List.length_append, digs_len, List.map_append]
          exact hO3.out
        have hg5 := Lib.hid (HG.out.grow (hB3.out.alloc hB3.out.size (.cells #[.slice (some ⟨g3, 0, none⟩) (r + 1) cap3] 39)) hr5 HS.out HO5.out HR5.out)
        have hW5 := Lib.hid ((HW.out.trans ((hB3.out.alloc hB3.out.size (.cells #[.slice (some ⟨g3, 0, none⟩) (r + 1) cap3] 39)).mono HW.out.size)).grown HR5.out (by have := hB3.out.size; have := HS.out; simp; omega) (fun q hq => by have := (HG.out.outer.lt q hq).1; omega))
        have hs5 : Hid (w1.heap.size + 1 ≤ w5.heap.size) := Lib.hid (by have h1 := HR5.out.size; have h2 := hB3.out.size; have h3 := HS.out; simp at h1; omega)
        clear hr5 hgrow3 hgrow5 ce2 ce2a ce3 ce3a ce5 fe5 ce cea cd0 cd1 hx
        go_wp2
        go_roundw
        case rel =>
          refine ⟨k + 1, some ⟨g5, 0, none⟩, k + 1, cap5, _, by omega, by go_num, HB5.out.set1 _, ((hg5.out.same (by simp [World.setCell]) fun g hg _ => Below.heap_setCell _ _ _ _ (by show g ≠ w1.heap.size; omega)).full).congr fun i hi => ?_, hW5.out.setCell (Nat.le_refl _) _, by have := hs5.out; simpa [World.setCell] using this⟩
          by_cases hik : i = k
          · subst hik; simp
          · simp [hik]
        case measure => simp [intOf]; omega
      refine AllReadyH.cons rfl (fun K hK => ?_) AllReadyH.nil
      go_simp; go_at_call 42; refine (l01Digits s r k hs1 (by omega) (by omega) (by omega) _).mono ?_; rintro e w2 ⟨a2, c2, rfl, ho2, hb2⟩; have hO2 := Lib.hid (own_dig (B := wr.heap.size) ho2 (by simp)); have hB2 : Hid (Below wr.heap.size wr w2) := Lib.hid (by first | exact ((QW.refl wr).drew.below _).trans hb2 | exact (((QW.refl wr).drew.below _).alloc (Nat.le_refl _) _).trans (hb2.mono (by simp))); have HN2 := Lib.hid (own_far hO2.out); have ce2 := below_cell hB2.out ce; have ce2a := below_cell ((Below.refl w2.heap.size w2).alloc (Nat.le_refl _) (.cells #[.int .i64 (intN tab k)] 2)) ce2; clear ho2; try dsimp only
      refine hK.out _ _ ?_ (fun hHeld => ?_)
      · first | exact three_set HS5.out (by show w.heap.size ≠ w1.heap.size; omega) (by show w.heap.size ≠ w1.heap.size; omega) (by show b ≠ w1.heap.size; omega) | exact HS5.out | exact three_grown (by assumption) hgrow3 (HN2.out _ hq2) (HN2.out _ hq2) (HN2.out _ hq3) | exact three_below (by assumption) hb2 | exact ⟨cd0, cd1, hx⟩ | go_keep
      clear hK K
      try simp only [Act.put, List.setIfInBounds_toArray, List.set_cons_zero, List.set_cons_succ]
      refine wpAnyH_ready (rs := [1, 13]) (by kernel_rfl) (by simp) ?_
      refine AllReadyH.cons rfl (fun K hK => ?_) ?_
      · go_simp
        refine hK.out _ _ ?_ (fun hHeld => ?_)
        · first | exact three_set HS5.out (by show w.heap.size ≠ w1.heap.size; omega) (by show w.heap.size ≠ w1.heap.size; omega) (by show b ≠ w1.heap.size; omega) | exact HS5.out | exact three_grown (by assumption) hgrow3 (HN2.out _ hq2) (HN2.out _ hq2) (HN2.out _ hq3) | exact three_below (by assumption) hb2 | exact ⟨cd0, cd1, hx⟩ | go_keep
        clear hK K
        try simp only [Act.put, List.setIfInBounds_toArray, List.set_cons_zero, List.set_cons_succ]
        refine wpAnyH_ready (rs := [13]) (by kernel_rfl) (by simp) ?_
        refine AllReadyH.cons rfl (fun K hK => ?_) AllReadyH.nil
        refine step_append_lies _ (by rfl) _ _ 39 (by rfl) wr.heap.size 2 i0 (.int .i64 0) 1 8 Tryd.underlying39 hi0 hz0 hz1 hz2 (by rfl) (by decide) (.slice a2 r c2) r _ (by rfl) (by first | exact hO2.out.alloc _ | exact hO2.out) _ 1 1 [.int .i64 (intN tab k)] (by rfl) (by rfl) (by first | exact cell_one_new _ _ _ | exact news_below (cell_one_new _ _ _) hb2 | exact news_below (news_below (cell_one_new wr _ _) ((QW.refl _).drew.below _)) hb2) (by simp [Value.oneCell']) (by omega) (by unfold maxLen; omega) (by omega) (by have := hB2.out.size; first | omega | (simp; omega)) _ rfl ?_; intro g3 cap3 w3 hown3 hgrow3 hat3 hlt3; have hB3 : Hid (Below wr.heap.size wr w3) := Lib.hid (by first | exact (hB2.out.alloc hB2.out.size _).grown hgrow3 (by have := hB2.out.size; simp; omega) (fun q hq => (hO2.out.lt q hq).1) | exact hB2.out.grown hgrow3 hB2.out.size (fun q hq => (hO2.out.lt q hq).1)); have hO3 := Lib.hid hown3; have ce3 := below_cell hB3.out ce; have ce3a := below_cell ((Below.refl w3.heap.size w3).alloc (Nat.le_refl _) (.cells #[.slice (some ⟨g3, 0, none⟩) (r + 1) cap3] 39)) ce3; clear hown3
        refine hK.out _ _ ?_ (fun hHeld => ?_)
        · first | exact three_set HS5.out (by show w.heap.size ≠ w1.heap.size; omega) (by show w.heap.size ≠ w1.heap.size; omega) (by show b ≠ w1.heap.size; omega) | exact HS5.out | exact three_grown (by assumption) hgrow3 (HN2.out _ hq2) (HN2.out _ hq2) (HN2.out _ hq3) | exact three_below (by assumption) hb2 | exact ⟨cd0, cd1, hx⟩ | go_keep
        clear hK K
        try simp only [Act.put, List.setIfInBounds_toArray, List.set_cons_zero, List.set_cons_succ]
        refine wpAnyH_ready (rs := [14]) (by kernel_rfl) (by simp) ?_
        refine AllReadyH.cons rfl (fun K hK => ?_) AllReadyH.nil
        go_simp
        refine hK.out _ _ ?_ (fun hHeld => ?_)
        · first | exact three_set HS5.out (by show w.heap.size ≠ w1.heap.size; omega) (by show w.heap.size ≠ w1.heap.size; omega) (by show b ≠ w1.heap.size; omega) | exact HS5.out | exact three_grown (by assumption) hgrow3 (HN2.out _ hq2) (HN2.out _ hq2) (HN2.out _ hq3) | exact three_below (by assumption) hb2 | exact ⟨cd0, cd1, hx⟩ | go_keep
        clear hK K
        try simp only [Act.put, List.setIfInBounds_toArray, List.set_cons_zero, List.set_cons_succ]
        refine wpAnyH_ready (rs := [15]) (by kernel_rfl) (by simp) ?_
        refine AllReadyH.cons rfl (fun K hK => ?_) AllReadyH.nil
        refine step_append_lies _ (by rfl) _ _ 23 (by rfl) (w1.heap.size + 1) 39 j0 (.slice none 0 0) 1 24 Tryd.underlying23 hj0 hy0 hy1 hy2 (by rfl) (by decide) (.slice a' n' c') k _ (by rfl) ((ownsRow_below HG.out.outer hB3.out).alloc _) _ 1 1 [.slice (some ⟨g3, 0, none⟩) (r + 1) cap3] (by rfl) (by rfl) (cell_one_new _ _ _) (by simp [Value.oneCell']) (by omega) (by unfold maxLen; omega) (by omega) (by have := hB3.out.size; simp; omega) _ rfl ?_; intro g5 cap5 w5 hown5 hgrow5 hat5 hlt5; have HS5 := Lib.hid (three_grown (three_below ⟨cd0, cd1, hx⟩ (hB3.out.alloc hB3.out.size (.cells #[.slice (some ⟨g3, 0, none⟩) (r + 1) cap3] 39))) hgrow5 (Ne.symm (HF.out _ hq4)) (Ne.symm (HF.out _ hq4)) (Ne.symm (HF.out _ hq5))); have hb5 := ((HB.out.below hB3.out).alloc (.cells #[.slice (some ⟨g3, 0, none⟩) (r + 1) cap3] 39)).grown hgrow5 (HF.out _ (by omega)); have fe5 := hb5.free 1; have ce5 := hb5.c1; have HB5 := Lib.hid hb5; have HO5 := Lib.hid hown5; have HR5 := Lib.hid hgrow5; clear hb5 hown5
        refine hK.out _ _ ?_ (fun hHeld => ?_)
        · first | exact three_set HS5.out (by show w.heap.size ≠ w1.heap.size; omega) (by show w.heap.size ≠ w1.heap.size; omega) (by show b ≠ w1.heap.size; omega) | exact HS5.out | exact three_grown (by assumption) hgrow3 (HN2.out _ hq2) (HN2.out _ hq2) (HN2.out _ hq3) | exact three_below (by assumption) hb2 | exact ⟨cd0, cd1, hx⟩ | go_keep
        clear hK K
        try simp only [Act.put, List.setIfInBounds_toArray, List.set_cons_zero, List.set_cons_succ]
        refine wpAnyH_take (i := 16) (v := ?_) rfl (by kernel_rfl) (by kernel_rfl) (by kernel_rfl) (fun _ _ _ h => h) (Or.inl ⟨by rfl, ?_⟩) (by assumption) ?_
        rotate_left
        · intro wS hSw
          try dsimp only at hSw
          go_simp
          try with_reducible rfl
        try simp only [Act.put, List.setIfInBounds_toArray, List.set_cons_zero, List.set_cons_succ]
        refine wpAnyH_ready (rs := [17]) (by kernel_rfl) (by simp) ?_
        refine AllReadyH.cons rfl (fun K hK => ?_) AllReadyH.nil
        go_simp
        refine hK.out _ _ ?_ (fun hHeld => ?_)
        · first | exact three_set HS5.out (by show w.heap.size ≠ w1.heap.size; omega) (by show w.heap.size ≠ w1.heap.size; omega) (by show b ≠ w1.heap.size; omega) | exact HS5.out | exact three_grown (by assumption) hgrow3 (HN2.out _ hq2) (HN2.out _ hq2) (HN2.out _ hq3) | exact three_below (by assumption) hb2 | exact ⟨cd0, cd1, hx⟩ | go_keep
        clear hK K
        try simp only [Act.put, List.setIfInBounds_toArray, List.set_cons_zero, List.set_cons_succ]
        refine wpAnyH_done (by kernel_rfl) ?_ _
        refine NoPanic.normal ?_
        have hr5 : OwnRow (w3.alloc (.cells #[.slice (some ⟨g3, 0, none⟩) (r + 1) cap3] 39)) wr.heap.size (.slice (some ⟨g3, 0, none⟩) (r + 1) cap3) (digs s r k ++ [intN tab k]) := by
          refine OwnRow.below (w := w3) ?_ ((Below.refl _ _).alloc (Nat.le_refl _) _)
          unfold OwnRow
          rw [List.length_append, digs_len, List.map_append]
          exact hO3.out
        have hg5 := Lib.hid (HG.out.grow (hB3.out.alloc hB3.out.size (.cells #[.slice (some ⟨g3, 0, none⟩) (r + 1) cap3] 39)) hr5 HS.out HO5.out HR5.out)
        have hW5 := Lib.hid ((HW.out.trans ((hB3.out.alloc hB3.out.size (.cells #[.slice (some ⟨g3, 0, none⟩) (r + 1) cap3] 39)).mono HW.out.size)).grown HR5.out (by have := hB3.out.size; have := HS.out; simp; omega) (fun q hq => by have := (HG.out.outer.lt q hq).1; omega))
        have hs5 : Hid (w1.heap.size + 1 ≤ w5.heap.size) := Lib.hid (by have h1 := HR5.out.size; have h2 := hB3.out.size; have h3 := HS.out; simp at h1; omega)
        clear hr5 hgrow3 hgrow5 ce2 ce2a ce3 ce3a ce5 fe5 ce cea cd0 cd1 hx
        go_wp2
        go_roundw
        case rel =>
          refine ⟨k + 1, some ⟨g5, 0, none⟩, k + 1, cap5, _, by omega, by go_num, HB5.out.set1 _, ((hg5.out.same (by simp [World.setCell]) fun g hg _ => Below.heap_setCell _ _ _ _ (by show g ≠ w1.heap.size; omega)).full).congr fun i hi => ?_, hW5.out.setCell (Nat.le_refl _) _, by have := hs5.out; simpa [World.setCell] using this⟩
          by_cases hik : i = k
          · subst hik; simp
          · simp [hik]
        case measure => simp [intOf]; omega
      refine AllReadyH.cons rfl (fun K hK => ?_) AllReadyH.nil
      refine step_append_lies _ (by rfl) _ _ 39 (by rfl) wr.heap.size 2 i0 (.int .i64 0) 1 8 Tryd.underlying39 hi0 hz0 hz1 hz2 (by rfl) (by decide) (.slice a2 r c2) r _ (by rfl) (by first | exact hO2.out.alloc _ | exact hO2.out) _ 1 1 [.int .i64 (intN tab k)] (by rfl) (by rfl) (by first | exact cell_one_new _ _ _ | exact news_below (cell_one_new _ _ _) hb2 | exact news_below (news_below (cell_one_new wr _ _) ((QW.refl _).drew.below _)) hb2) (by simp [Value.oneCell']) (by omega) (by unfold maxLen; omega) (by omega) (by have := hB2.out.size; first | omega | (simp; omega)) _ rfl ?_; intro g3 cap3 w3 hown3 hgrow3 hat3 hlt3; have hB3 : Hid (Below wr.heap.size wr w3) := Lib.hid (by first | exact (hB2.out.alloc hB2.out.size _).grown hgrow3 (by have := hB2.out.size; simp; omega) (fun q hq => (hO2.out.lt q hq).1) | exact hB2.out.grown hgrow3 hB2.out.size (fun q hq => (hO2.out.lt q hq).1)); have hO3 := Lib.hid hown3; have ce3 := below_cell hB3.out ce; have ce3a := below_cell ((Below.refl w3.heap.size w3).alloc (Nat.le_refl _) (.cells #[.slice (some ⟨g3, 0, none⟩) (r + 1) cap3] 39)) ce3; clear hown3
      refine hK.out _ _ ?_ (fun hHeld => ?_)
      · first | exact three_set HS5.out (by show w.heap.size ≠ w1.heap.size; omega) (by show w.heap.size ≠ w1.heap.size; omega) (by show b ≠ w1.heap.size; omega) | exact HS5.out | exact three_grown (by assumption) hgrow3 (HN2.out _ hq2) (HN2.out _ hq2) (HN2.out _ hq3) | exact three_below (by assumption) hb2 | exact ⟨cd0, cd1, hx⟩ | go_keep
      clear hK K
      try simp only [Act.put, List.setIfInBounds_toArray, List.set_cons_zero, List.set_cons_succ]
      refine wpAnyH_ready (rs := [1, 14]) (by kernel_rfl) (by simp) ?_
      refine AllReadyH.cons rfl (fun K hK => ?_) ?_
      · go_simp
        refine hK.out _ _ ?_ (fun hHeld => ?_)
        · first | exact three_set HS5.out (by show w.heap.size ≠ w1.heap.size; omega) (by show w.heap.size ≠ w1.heap.size; omega) (by show b ≠ w1.heap.size; omega) | exact HS5.out | exact three_grown (by assumption) hgrow3 (HN2.out _ hq2) (HN2.out _ hq2) (HN2.out _ hq3) | exact three_below (by assumption) hb2 | exact ⟨cd0, cd1, hx⟩ | go_keep
        clear hK K
        try simp only [Act.put, List.setIfInBounds_toArray, List.set_cons_zero, List.set_cons_succ]
        refine wpAnyH_ready (rs := [14]) (by kernel_rfl) (by simp) ?_
        refine AllReadyH.cons rfl (fun K hK => ?_) AllReadyH.nil
        go_simp
        refine hK.out _ _ ?_ (fun hHeld => ?_)
        · first | exact three_set HS5.out (by show w.heap.size ≠ w1.heap.size; omega) (by show w.heap.size ≠ w1.heap.size; omega) (by show b ≠ w1.heap.size; omega) | exact HS5.out | exact three_grown (by assumption) hgrow3 (HN2.out _ hq2) (HN2.out _ hq2) (HN2.out _ hq3) | exact three_below (by assumption) hb2 | exact ⟨cd0, cd1, hx⟩ | go_keep
        clear hK K
        try simp only [Act.put, List.setIfInBounds_toArray, List.set_cons_zero, List.set_cons_succ]
        refine wpAnyH_ready (rs := [15]) (by kernel_rfl) (by simp) ?_
        refine AllReadyH.cons rfl (fun K hK => ?_) AllReadyH.nil
        refine step_append_lies _ (by rfl) _ _ 23 (by rfl) (w1.heap.size + 1) 39 j0 (.slice none 0 0) 1 24 Tryd.underlying23 hj0 hy0 hy1 hy2 (by rfl) (by decide) (.slice a' n' c') k _ (by rfl) ((ownsRow_below HG.out.outer hB3.out).alloc _) _ 1 1 [.slice (some ⟨g3, 0, none⟩) (r + 1) cap3] (by rfl) (by rfl) (cell_one_new _ _ _) (by simp [Value.oneCell']) (by omega) (by unfold maxLen; omega) (by omega) (by have := hB3.out.size; simp; omega) _ rfl ?_; intro g5 cap5 w5 hown5 hgrow5 hat5 hlt5; have HS5 := Lib.hid (three_grown (three_below ⟨cd0, cd1, hx⟩ (hB3.out.alloc hB3.out.size (.cells #[.slice (some ⟨g3, 0, none⟩) (r + 1) cap3] 39))) hgrow5 (Ne.symm (HF.out _ hq4)) (Ne.symm (HF.out _ hq4)) (Ne.symm (HF.out _ hq5))); have hb5 := ((HB.out.below hB3.out).alloc (.cells #[.slice (some ⟨g3, 0, none⟩) (r + 1) cap3] 39)).grown hgrow5 (HF.out _ (by omega)); have fe5 := hb5.free 1; have ce5 := hb5.c1; have HB5 := Lib.hid hb5; have HO5 := Lib.hid hown5; have HR5 := Lib.hid hgrow5; clear hb5 hown5
        refine hK.out _ _ ?_ (fun hHeld => ?_)
        · first | exact three_set HS5.out (by show w.heap.size ≠ w1.heap.size; omega) (by show w.heap.size ≠ w1.heap.size; omega) (by show b ≠ w1.heap.size; omega) | exact HS5.out | exact three_grown (by assumption) hgrow3 (HN2.out _ hq2) (HN2.out _ hq2) (HN2.out _ hq3) | exact three_below (by assumption) hb2 | exact ⟨cd0, cd1, hx⟩ | go_keep
        clear hK K
        try simp only [Act.put, List.setIfInBounds_toArray, List.set_cons_zero, List.set_cons_succ]
        refine wpAnyH_take (i := 16) (v := ?_) rfl (by kernel_rfl) (by kernel_rfl) (by kernel_rfl) (fun _ _ _ h => h) (Or.inl ⟨by rfl, ?_⟩) (by assumption) ?_
        rotate_left
        · intro wS hSw
          try dsimp only at hSw
          go_simp
          try with_reducible rfl
        try simp only [Act.put, List.setIfInBounds_toArray, List.set_cons_zero, List.set_cons_succ]
        refine wpAnyH_ready (rs := [17]) (by kernel_rfl) (by simp) ?_
        refine AllReadyH.cons rfl (fun K hK => ?_) AllReadyH.nil
        go_simp
        refine hK.out _ _ ?_ (fun hHeld => ?_)
        · first | exact three_set HS5.out (by show w.heap.size ≠ w1.heap.size; omega) (by show w.heap.size ≠ w1.heap.size; omega) (by show b ≠ w1.heap.size; omega) | exact HS5.out | exact three_grown (by assumption) hgrow3 (HN2.out _ hq2) (HN2.out _ hq2) (HN2.out _ hq3) | exact three_below (by assumption) hb2 | exact ⟨cd0, cd1, hx⟩ | go_keep
        clear hK K
        try simp only [Act.put, List.setIfInBounds_toArray, List.set_cons_zero, List.set_cons_succ]
        refine wpAnyH_done (by kernel_rfl) ?_ _
        refine NoPanic.normal ?_
        have hr5 : OwnRow (w3.alloc (.cells #[.slice (some ⟨g3, 0, none⟩) (r + 1) cap3] 39)) wr.heap.size (.slice (some ⟨g3, 0, none⟩) (r + 1) cap3) (digs s r k ++ [intN tab k]) := by
          refine OwnRow.below (w := w3) ?_ ((Below.refl _ _).alloc (Nat.le_refl _) _)
          unfold OwnRow
          rw [List.length_append, digs_len, List.map_append]
          exact hO3.out
        have hg5 := Lib.hid (HG.out.grow (hB3.out.alloc hB3.out.size (.cells #[.slice (some ⟨g3, 0, none⟩) (r + 1) cap3] 39)) hr5 HS.out HO5.out HR5.out)
        have hW5 := Lib.hid ((HW.out.trans ((hB3.out.alloc hB3.out.size (.cells #[.slice (some ⟨g3, 0, none⟩) (r + 1) cap3] 39)).mono HW.out.size)).grown HR5.out (by have := hB3.out.size; have := HS.out; simp; omega) (fun q hq => by have := (HG.out.outer.lt q hq).1; omega))
        have hs5 : Hid (w1.heap.size + 1 ≤ w5.heap.size) := Lib.hid (by have h1 := HR5.out.size; have h2 := hB3.out.size; have h3 := HS.out; simp at h1; omega)
        clear hr5 hgrow3 hgrow5 ce2 ce2a ce3 ce3a ce5 fe5 ce cea cd0 cd1 hx
        go_wp2
        go_roundw
        case rel =>
          refine ⟨k + 1, some ⟨g5, 0, none⟩, k + 1, cap5, _, by omega, by go_num, HB5.out.set1 _, ((hg5.out.same (by simp [World.setCell]) fun g hg _ => Below.heap_setCell _ _ _ _ (by show g ≠ w1.heap.size; omega)).full).congr fun i hi => ?_, hW5.out.setCell (Nat.le_refl _) _, by have := hs5.out; simpa [World.setCell] using this⟩
          by_cases hik : i = k
          · subst hik; simp
          · simp [hik]
        case measure => simp [intOf]; omega
      refine AllReadyH.cons rfl (fun K hK => ?_) AllReadyH.nil
      go_simp
      refine hK.out _ _ ?_ (fun hHeld => ?_)
      · first | exact three_set HS5.out (by show w.heap.size ≠ w1.heap.size; omega) (by show w.heap.size ≠ w1.heap.size; omega) (by show b ≠ w1.heap.size; omega) | exact HS5.out | exact three_grown (by assumption) hgrow3 (HN2.out _ hq2) (HN2.out _ hq2) (HN2.out _ hq3) | exact three_below (by assumption) hb2 | exact ⟨cd0, cd1, hx⟩ | go_keep
      clear hK K
      try simp only [Act.put, List.setIfInBounds_toArray, List.set_cons_zero, List.set_cons_succ]
      refine wpAnyH_ready (rs := [1]) (by kernel_rfl) (by simp) ?_
      refine AllReadyH.cons rfl (fun K hK => ?_) AllReadyH.nil
      go_simp
      refine hK.out _ _ ?_ (fun hHeld => ?_)
      · first | exact three_set HS5.out (by show w.heap.size ≠ w1.heap.size; omega) (by show w.heap.size ≠ w1.heap.size; omega) (by show b ≠ w1.heap.size; omega) | exact HS5.out | exact three_grown (by assumption) hgrow3 (HN2.out _ hq2) (HN2.out _ hq2) (HN2.out _ hq3) | exact three_below (by assumption) hb2 | exact ⟨cd0, cd1, hx⟩ | go_keep
      clear hK K
      try simp only [Act.put, List.setIfInBounds_toArray, List.set_cons_zero, List.set_cons_succ]
      refine wpAnyH_ready (rs := [15]) (by kernel_rfl) (by simp) ?_
      refine AllReadyH.cons rfl (fun K hK => ?_) AllReadyH.nil
      refine step_append_lies _ (by rfl) _ _ 23 (by rfl) (w1.heap.size + 1) 39 j0 (.slice none 0 0) 1 24 Tryd.underlying23 hj0 hy0 hy1 hy2 (by rfl) (by decide) (.slice a' n' c') k _ (by rfl) ((ownsRow_below HG.out.outer hB3.out).alloc _) _ 1 1 [.slice (some ⟨g3, 0, none⟩) (r + 1) cap3] (by rfl) (by rfl) (cell_one_new _ _ _) (by simp [Value.oneCell']) (by omega) (by unfold maxLen; omega) (by omega) (by have := hB3.out.size; simp; omega) _ rfl ?_; intro g5 cap5 w5 hown5 hgrow5 hat5 hlt5; have HS5 := Lib.hid (three_grown (three_below ⟨cd0, cd1, hx⟩ (hB3.out.alloc hB3.out.size (.cells #[.slice (some ⟨g3, 0, none⟩) (r + 1) cap3] 39))) hgrow5 (Ne.symm (HF.out _ hq4)) (Ne.symm (HF.out _ hq4)) (Ne.symm (HF.out _ hq5))); have hb5 := ((HB.out.below hB3.out).alloc (.cells #[.slice (some ⟨g3, 0, none⟩) (r + 1) cap3] 39)).grown hgrow5 (HF.out _ (by omega)); have fe5 := hb5.free 1; have ce5 := hb5.c1; have HB5 := Lib.hid hb5; have HO5 := Lib.hid hown5; have HR5 := Lib.hid hgrow5; clear hb5 hown5
      refine hK.out _ _ ?_ (fun hHeld => ?_)
      · first | exact three_set HS5.out (by show w.heap.size ≠ w1.heap.size; omega) (by show w.heap.size ≠ w1.heap.size; omega) (by show b ≠ w1.heap.size; omega) | exact HS5.out | exact three_grown (by assumption) hgrow3 (HN2.out _ hq2) (HN2.out _ hq2) (HN2.out _ hq3) | exact three_below (by assumption) hb2 | exact ⟨cd0, cd1, hx⟩ | go_keep
      clear hK K
      try simp only [Act.put, List.setIfInBounds_toArray, List.set_cons_zero, List.set_cons_succ]
      refine wpAnyH_take (i := 16) (v := ?_) rfl (by kernel_rfl) (by kernel_rfl) (by kernel_rfl) (fun _ _ _ h => h) (Or.inl ⟨by rfl, ?_⟩) (by assumption) ?_
      rotate_left
      · intro wS hSw
        try dsimp only at hSw
        go_simp
        try with_reducible rfl
      try simp only [Act.put, List.setIfInBounds_toArray, List.set_cons_zero, List.set_cons_succ]
      refine wpAnyH_ready (rs := [17]) (by kernel_rfl) (by simp) ?_
      refine AllReadyH.cons rfl (fun K hK => ?_) AllReadyH.nil
      go_simp
      refine hK.out _ _ ?_ (fun hHeld => ?_)
      · first | exact three_set HS5.out (by show w.heap.size ≠ w1.heap.size; omega) (by show w.heap.size ≠ w1.heap.size; omega) (by show b ≠ w1.heap.size; omega) | exact HS5.out | exact three_grown (by assumption) hgrow3 (HN2.out _ hq2) (HN2.out _ hq2) (HN2.out _ hq3) | exact three_below (by assumption) hb2 | exact ⟨cd0, cd1, hx⟩ | go_keep
      clear hK K
      try simp only [Act.put, List.setIfInBounds_toArray, List.set_cons_zero, List.set_cons_succ]
      refine wpAnyH_done (by kernel_rfl) ?_ _
      refine NoPanic.normal ?_
      have hr5 : OwnRow (w3.alloc (.cells #[.slice (some ⟨g3, 0, none⟩) (r + 1) cap3] 39)) wr.heap.size (.slice (some ⟨g3, 0, none⟩) (r + 1) cap3) (digs s r k ++ [intN tab k]) := by
        refine OwnRow.below (w := w3) ?_ ((Below.refl _ _).alloc (Nat.le_refl _) _)
        unfold OwnRow
        rw [List.length_append, digs_len, List.map_append]
        exact hO3.out
      have hg5 := Lib.hid (HG.out.grow (hB3.out.alloc hB3.out.size (.cells #[.slice (some ⟨g3, 0, none⟩) (r + 1) cap3] 39)) hr5 HS.out HO5.out HR5.out)
      have hW5 := Lib.hid ((HW.out.trans ((hB3.out.alloc hB3.out.size (.cells #[.slice (some ⟨g3, 0, none⟩) (r + 1) cap3] 39)).mono HW.out.size)).grown HR5.out (by have := hB3.out.size; have := HS.out; simp; omega) (fun q hq => by have := (HG.out.outer.lt q hq).1; omega))
      have hs5 : Hid (w1.heap.size + 1 ≤ w5.heap.size) := Lib.hid (by have h1 := HR5.out.size; have h2 := hB3.out.size; have h3 := HS.out; simp at h1; omega)
      clear hr5 hgrow3 hgrow5 ce2 ce2a ce3 ce3a ce5 fe5 ce cea cd0 cd1 hx
      go_wp2
      go_roundw
      case rel =>
        refine ⟨k + 1, some ⟨g5, 0, none⟩, k + 1, cap5, _, by omega, by go_num, HB5.out.set1 _, ((hg5.out.same (by simp [World.setCell]) fun g hg _ => Below.heap_setCell _ _ _ _ (by show g ≠ w1.heap.size; omega)).full).congr fun i hi => ?_, hW5.out.setCell (Nat.le_refl _) _, by have := hs5.out; simpa [World.setCell] using this⟩
        by_cases hik : i = k
        · subst hik; simp
        · simp [hik]
      case measure => simp [intOf]; omega
    · obtain rfl : k = tab.length := by omega
      have c0 := hb.c0
      have c1 := hb.c1
      have hr := HR1.out.below hbel
      have d0 := hr.c0
      have d1 := hr.c1
      have f0 := hr.free 0
      have f1 := hr.free 1
      have HE : Hid (OwnGrid wr (w1.heap.size + 1) wr.heap.size (.slice a' n' c') (graphR s r tab tab.length)) := by
        refine ⟨V, ?_⟩
        rw [graphR_len]
        exact hgr.congr fun i hi => by rw [graphR_at _ _ _ _ _ hi]
      have HW := Lib.hid ((K1.out.below hbel).bel)
      have cd1 := below_cell hbel cc1
      have HZ := Lib.hid hsz
      clear hb hgr hbel hr hsz
      go_wp2
      refine bodyPost_ret (v := .tuple #[.agg #[.int .i64 (r + 1), .slice a' n' c'], .int .i64 0]) (by simp [results, Tryd.results19, go_sem, d0, d1]) rfl ⟨a', n', c', rfl, ?_, ?_⟩
      · have e1 := HZ1.out
        exact (((HE.out.stored (by show w.heap.size + 1 < w1.heap.size + 1; omega) _).stored (by show w.heap.size + 1 < w1.heap.size + 1; omega) _).mono (by omega)).full
      · exact (HW.out.setCell (by show w.heap.size ≤ w.heap.size + 1; omega) _).setCell (by show w.heap.size ≤ w.heap.size + 1; omega) _

end Go.Proofs.YtpkmdieaifggoabDoor
