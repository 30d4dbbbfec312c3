/-
  (*l07Row).less of the model: a row of its own from which another one is taken away, so many times.
-/
import Derived.Test.YtnbgpeoceejolaaFirst7
import Derived.Test.YtnbgpeoceejolaaDot
import Derived.Test.YtnbgpeoceejolaaReg
import Derived.Test.YtnbgpeoceejolaaRestK
namespace Go.Proofs.Ytnbgpeoceejolaa
open Go.RowKit

/-- A list from whose first k numbers so many times others have been taken away. -/
def lessK (p t : Int) (xs ys : List Int) (k : Nat) : List Int := (List.range xs.length).map fun i => if i < k then (intN xs i - t * intN ys i) % p else intN xs i
theorem lessK_len (p t : Int) (xs ys : List Int) (k : Nat) : (lessK p t xs ys k).length = xs.length := by simp [lessK]
theorem lessK_at (p t : Int) (xs ys : List Int) (k i : Nat) (h : i < xs.length) : intN (lessK p t xs ys k) i = if i < k then (intN xs i - t * intN ys i) % p else intN xs i := by
  rw [intN_at _ _ (by rw [lessK_len]; exact h)]
  simp [lessK]
theorem lessK_zero (p t : Int) (xs ys : List Int) : lessK p t xs ys 0 = xs := by
  apply List.ext_getElem
  · simp [lessK]
  · intro i h1 h2
    simp [lessK, intN, List.getD, h2]
theorem lessK_set (p t : Int) (xs ys : List Int) (k : Nat) : (lessK p t xs ys k).set k ((intN xs k - t * intN ys k) % p) = lessK p t xs ys (k + 1) := by
  apply List.ext_getElem
  · simp [lessK]
  · intro i h1 h2
    rw [List.getElem_set]
    by_cases hik : k = i
    · subst hik
      simp [lessK]
    · rw [if_neg hik]
      have e : i < k + 1 ↔ i < k := by omega
      simp [lessK, e]

/-- A row (left side, right side, how it has been made) whose lists are its own. -/
structure RowSt (w : World) (rb ro B : Nat) (vl : Value) (xs : List Int) (r : Int) (vb : Value) (bs : List Int) : Prop where
  left : w.cell? ⟨rb, ro, none⟩ = some vl
  right : w.cell? ⟨rb, ro + 1, none⟩ = some (.int .i64 r)
  by_ : w.cell? ⟨rb, ro + 2, none⟩ = some vb
  free : w.frozen? ⟨rb, ro + 1, none⟩ = false
  ownL : OwnRow w B vl xs
  ownB : OwnRow w B vb bs
  neL : vl.ownBlock ≠ some rb
  neB : vb.ownBlock ≠ some rb
  apart : ∀ g, vl.ownBlock = some g → vb.ownBlock ≠ some g
theorem RowSt.drewN {w : World} {rb ro B : Nat} {vl vb : Value} {xs bs : List Int} {r : Int} (h : RowSt w rb ro B vl xs r vb bs) (n : Nat) : RowSt (w.drewN n) rb ro B vl xs r vb bs :=
  ⟨h.left, h.right, h.by_, h.free, h.ownL, h.ownB, h.neL, h.neB, h.apart⟩

theorem RowSt.setL {w : World} {rb ro B g n c : Nat} {vb : Value} {xs bs : List Int} {r : Int} (h : RowSt w rb ro B (.slice (some ⟨g, 0, none⟩) n c) xs r vb bs) (k : Nat) (x : Int) : RowSt (w.setCell ⟨g, k, none⟩ (.int .i64 x)) rb ro B (.slice (some ⟨g, 0, none⟩) n c) (xs.set k x) r vb bs := by
  have hne : g ≠ rb := fun e => h.neL (by simp [Value.ownBlock, e])
  have hbk : ∀ k', k' ≠ g → (w.setCell ⟨g, k, none⟩ (.int .i64 x)).heap[k']? = w.heap[k']? := fun k' hk => Below.heap_setCell _ _ _ _ hk
  refine ⟨(World.cell?_of_block (hbk rb (fun e => hne e.symm))).trans h.left, (World.cell?_of_block (hbk rb (fun e => hne e.symm))).trans h.right, (World.cell?_of_block (hbk rb (fun e => hne e.symm))).trans h.by_, ?_, h.ownL.set k x, ownsRow_same h.ownB fun g' hg' => hbk g' (fun e => h.apart g (by simp [Value.ownBlock]) (by rw [← e]; exact hg')), h.neL, h.neB, h.apart⟩
  have := h.free
  unfold World.frozen? at this ⊢
  rw [hbk rb (fun e => hne e.symm)]
  exact this
theorem RowSt.setB {w : World} {rb ro B g n c : Nat} {vl : Value} {xs bs : List Int} {r : Int} (h : RowSt w rb ro B vl xs r (.slice (some ⟨g, 0, none⟩) n c) bs) (k : Nat) (x : Int) : RowSt (w.setCell ⟨g, k, none⟩ (.int .i64 x)) rb ro B vl xs r (.slice (some ⟨g, 0, none⟩) n c) (bs.set k x) := by
  have hne : g ≠ rb := fun e => h.neB (by simp [Value.ownBlock, e])
  have hbk : ∀ k', k' ≠ g → (w.setCell ⟨g, k, none⟩ (.int .i64 x)).heap[k']? = w.heap[k']? := fun k' hk => Below.heap_setCell _ _ _ _ hk
  refine ⟨(World.cell?_of_block (hbk rb (fun e => hne e.symm))).trans h.left, (World.cell?_of_block (hbk rb (fun e => hne e.symm))).trans h.right, (World.cell?_of_block (hbk rb (fun e => hne e.symm))).trans h.by_, ?_, ownsRow_same h.ownL fun g' hg' => hbk g' (fun e => h.apart g' hg' (by simp [Value.ownBlock, e])), h.ownB.set k x, h.neL, h.neB, h.apart⟩
  have := h.free
  unfold World.frozen? at this ⊢
  rw [hbk rb (fun e => hne e.symm)]
  exact this
theorem RowSt.setR {w : World} {rb ro B : Nat} {vl vb : Value} {xs bs : List Int} {r : Int} (h : RowSt w rb ro B vl xs r vb bs) (x : Int) : RowSt (w.setCell ⟨rb, ro + 1, none⟩ (.int .i64 x)) rb ro B vl xs x vb bs := by
  have hbk : ∀ k', k' ≠ rb → (w.setCell ⟨rb, ro + 1, none⟩ (.int .i64 x)).heap[k']? = w.heap[k']? := fun k' hk => Below.heap_setCell _ _ _ _ hk
  have hc : ∀ (o : Nat) (v : Value), o ≠ ro + 1 → w.cell? ⟨rb, o, none⟩ = some v → (w.setCell ⟨rb, ro + 1, none⟩ (.int .i64 x)).cell? ⟨rb, o, none⟩ = some v := fun o v ho hv =>
    (World.cell?_setCell_other w _ _ _ (by intro e; simp only [Addr.mk.injEq] at e; exact ho e.2.1.symm)).trans hv
  refine ⟨hc _ _ (by omega) h.left, ?_, hc _ _ (by omega) h.by_, ?_, ownsRow_same h.ownL fun g' hg' => hbk g' (fun e => h.neL (by rw [← e]; exact hg')), ownsRow_same h.ownB fun g' hg' => hbk g' (fun e => h.neB (by rw [← e]; exact hg')), h.neL, h.neB, h.apart⟩
  · exact World.cell?_setCell_same w _ _ h.right
  · have := h.free
    simpa using this
/-- A row that is only read. -/
structure RowRd (w : World) (ob oo : Nat) (ys : List Int) (q : Int) (zs : List Int) : Prop where
  left : ∃ a c, w.cell? ⟨ob, oo, none⟩ = some (.slice a ys.length c) ∧ RowAt w (.slice a ys.length c) ys
  right : w.cell? ⟨ob, oo + 1, none⟩ = some (.int .i64 q)
  by_ : ∃ a c, w.cell? ⟨ob, oo + 2, none⟩ = some (.slice a zs.length c) ∧ RowAt w (.slice a zs.length c) zs
theorem prodT {t y : Int} (ht : 0 ≤ t ∧ t ≤ 3) (hy : 0 ≤ y ∧ y ≤ 2) : 0 ≤ t * y ∧ t * y ≤ 6 := by
  obtain ⟨h1, h2⟩ := hy
  obtain rfl | rfl | rfl : y = 0 ∨ y = 1 ∨ y = 2 := by omega
  all_goals omega

set_option linter.unusedSimpArgs false in
set_option maxHeartbeats 4000000 in
set_option maxRecDepth 100000 in
theorem less (rb ro ob oo B : Nat) (p t : Int) (vl : Value) (xs : List Int) (r : Int) (vb : Value) (bs ys : List Int) (q : Int) (zs : List Int) (w : World) (h : RowSt w rb ro B vl xs r vb bs)
    (ho : ∀ w', RestK rb vl.ownBlock vb.ownBlock w w' → RowRd w' ob oo ys q zs) (hp : PrimeP p) (ht : 0 ≤ t ∧ t ≤ 3) (hxl : Low3 xs) (hyl : Low3 ys) (hbl : Low3 bs) (hzl : Low3 zs) (hr : 0 ≤ r ∧ r ≤ 2) (hq : 0 ≤ q ∧ q ≤ 2) (hl1 : xs.length = ys.length) (hl2 : bs.length = zs.length) (hB : B ≤ rb) (hn1 : xs.length ≤ 1000) (hn2 : bs.length ≤ 1000) :
    Calls Try.prog 141 #[.pointer (some ⟨rb, ro, none⟩), .pointer (some ⟨ob, oo, none⟩), .int .i64 t, .int .i64 p] w fun e w' => e = .returned (.tuple #[]) ∧ RowSt w' rb ro B vl (lessK p t xs ys xs.length) ((r - t * q) % p) vb (lessK p t bs zs bs.length) ∧ Below B w w' ∧ RestK rb vl.ownBlock vb.ownBlock w w' := by
  obtain ⟨la, lc, rfl⟩ : ∃ la lc, vl = .slice la xs.length lc := by obtain ⟨a, c, he, _⟩ := h.ownL.rowAt; exact ⟨a, c, he⟩
  obtain ⟨ba, bc, rfl⟩ : ∃ ba bc, vb = .slice ba bs.length bc := by obtain ⟨a, c, he, _⟩ := h.ownB.rowAt; exact ⟨a, c, he⟩
  have S0 := Lib.hid h
  have HO := Lib.hid ho
  have HP := Lib.hid hp
  have HT := Lib.hid ht
  have HXL := Lib.hid hxl
  have HYL := Lib.hid hyl
  have HXB := Lib.hid hbl
  have HYB := Lib.hid hzl
  have HLENL := Lib.hid hl1
  have HLENB := Lib.hid hl2
  clear h ho hxl hyl hbl hzl hl1 hl2 hp
  go_enter Try.func141, Try.ntmps141
  go_wp2
  go_loopw [8] (fun i wr => ∃ k : Nat, k ≤ xs.length ∧ i = .int .i64 k ∧ RowSt wr rb ro B (.slice la xs.length lc) (lessK p t xs ys k) r (.slice ba bs.length bc) bs ∧ Below B w wr ∧ RestK rb (Value.slice la xs.length lc).ownBlock (Value.slice ba bs.length bc).ownBlock w wr) (fun i _ => xs.length - (intOf i).toNat)
  case atStart => exact ⟨0, Nat.zero_le _, rfl, by rw [lessK_zero]; exact S0.out, Below.refl _ _, RestK.refl _ _ _ _⟩
  case round =>
    obtain ⟨k, hk, rfl, hst, hbl, hrs⟩ := hrel
    have HST := Lib.hid hst
    have HBL := Lib.hid hbl
    have HRS := Lib.hid hrs
    have HOR := Lib.hid (HO.out wr hrs)
    have hlf := hst.left
    clear hst hbl hrs
    by_cases hlt : k < xs.length
    · obtain ⟨g, rfl, hBg, hgs⟩ : ∃ g, la = some ⟨g, 0, none⟩ ∧ B ≤ g ∧ g < wr.heap.size := by
        rcases HST.out.ownL.rowIn with ⟨_, h0⟩ | ⟨g, c', hv, hB, hg, _, _⟩
        · have := congrArg List.length h0
          simp only [lessK_len, List.length_nil] at this
          omega
        · simp only [Value.slice.injEq] at hv
          exact ⟨g, hv.1, hB, hg⟩
      have HBG := Lib.hid hBg
      have hfr : wr.frozen? ⟨g, k, none⟩ = false := HST.out.ownL.free k
      have hx : wr.cell? ⟨g, k, none⟩ = some (.int .i64 (intN xs k)) := by
        have h := HST.out.ownL.cell_of k (by rw [lessK_len]; exact hlt)
        rwa [lessK_at _ _ _ _ _ _ hlt, if_neg (by omega)] at h
      obtain ⟨oa, oc, hoc, hor⟩ := HOR.out.left
      obtain ⟨b2, off2, rfl, hy⟩ : ∃ b2 off2, oa = some ⟨b2, off2, none⟩ ∧ wr.cell? ⟨b2, off2 + k, none⟩ = some (.int .i64 (intN ys k)) := by
        obtain ⟨a', c', hv, _, hc⟩ := hor
        simp only [Value.slice.injEq] at hv
        obtain ⟨rfl, _, rfl⟩ := hv
        obtain ⟨b2, off2, rfl, hcell⟩ := hc (by have := HLENL.out; omega)
        exact ⟨b2, off2, rfl, hcell k (by have := HLENL.out; omega)⟩
      have hxb := HXL.out k
      have hyb := HYL.out k
      obtain ⟨x, hxe⟩ : ∃ x, intN xs k = x := ⟨_, rfl⟩
      obtain ⟨y, hye⟩ : ∃ y, intN ys k = y := ⟨_, rfl⟩
      rw [hxe] at hx hxb
      rw [hye] at hy hyb
      have hmb := prodT HT.out hyb
      obtain ⟨z, hze⟩ : ∃ z, x - t * y = z := ⟨_, rfl⟩
      have HZ : Hid (-9 ≤ z ∧ z ≤ 100) := Lib.hid (by omega)
      have HZE : Hid ((intN xs k - t * intN ys k) % p = z % p) := Lib.hid (by rw [hxe, hye, hze])
      have hw1 : IntKind.i64.wrap (t * y) = t * y := IntWalk.i64_in _ (by omega)
      have hw2 : IntKind.i64.wrap (x - t * y) = z := by rw [hze]; exact IntWalk.i64_in _ (by have := HZ.out; omega)
      have hlt' : (k : Int) < (xs.length : Int) := by omega
      have hlt2 : (k : Int) < (ys.length : Int) := by have := HLENL.out; omega
      clear hor hxb hyb hxe hye hze hmb hgs hBg
      have d0 := hlf
      have d1 := hx
      have d2 := hoc
      have d3 := hy
      clear hlf hx hoc hy
      go_wp2
      refine wp_region_noPanic ?_
      refine wp_region_late (S := (fun w' => w'.cell? ⟨rb, ro, none⟩ = some (.slice (some ⟨g, 0, none⟩) xs.length lc) ∧ w'.cell? ⟨g, k, none⟩ = some (.int .i64 x) ∧ w'.cell? ⟨ob, oo, none⟩ = some (.slice (some ⟨b2, off2, none⟩) ys.length oc) ∧ w'.cell? ⟨b2, off2 + k, none⟩ = some (.int .i64 y))) [25] (by kernel_rfl) ?_ (fun hHeld => ?_)
      · exact ⟨d0, d1, d2, d3⟩
      refine wpAnyL_free (i := 0) (v := ?_) (some 19) rfl rfl (by kernel_rfl) (by kernel_rfl) (by kernel_rfl) (by decide) (fun _ _ _ h => h) (Or.inl ⟨by rfl, ?_⟩) (fun h0 => by assumption) ?_
      rotate_left
      · intro wS
        go_simp
        try with_reducible rfl
      try simp only [Act.put, List.setIfInBounds_toArray, List.set_cons_zero, List.set_cons_succ]
      refine wpAnyL_free (i := 1) (v := ?_) (some 20) rfl rfl (by kernel_rfl) (by kernel_rfl) (by kernel_rfl) (by decide) (fun _ _ _ h => h) (Or.inl ⟨by rfl, ?_⟩) (fun h0 => by assumption) ?_
      rotate_left
      · intro wS
        go_simp
        try with_reducible rfl
      try simp only [Act.put, List.setIfInBounds_toArray, List.set_cons_zero, List.set_cons_succ]
      refine wpAnyL_free (i := 2) (v := ?_) (some 21) rfl rfl (by kernel_rfl) (by kernel_rfl) (by kernel_rfl) (by decide) (fun _ _ _ h => h) (Or.inl ⟨by rfl, ?_⟩) (fun h0 => by assumption) ?_
      rotate_left
      · intro wS
        go_simp
        try with_reducible rfl
      try simp only [Act.put, List.setIfInBounds_toArray, List.set_cons_zero, List.set_cons_succ]
      refine wpAnyL_take (i := 3) (v := ?_) (some 22) rfl rfl (by kernel_rfl) (by kernel_rfl) (by kernel_rfl) (by kernel_rfl) (by kernel_rfl) (fun _ _ _ h => h) (Or.inl ⟨by rfl, ?_⟩) (by assumption) ?_
      rotate_left
      · intro wS hSw
        try dsimp only at hSw
        go_simp
        try with_reducible rfl
      try simp only [Act.put, List.setIfInBounds_toArray, List.set_cons_zero, List.set_cons_succ]
      refine wpAnyL_free (i := 4) (v := ?_) (some 23) rfl rfl (by kernel_rfl) (by kernel_rfl) (by kernel_rfl) (by decide) (fun _ _ _ h => h) (Or.inl ⟨by rfl, ?_⟩) (fun h0 => by assumption) ?_
      rotate_left
      · intro wS
        go_simp
        try with_reducible rfl
      try simp only [Act.put, List.setIfInBounds_toArray, List.set_cons_zero, List.set_cons_succ]
      refine wpAnyL_free (i := 5) (v := ?_) (some 24) rfl rfl (by kernel_rfl) (by kernel_rfl) (by kernel_rfl) (by decide) (fun _ _ _ h => h) (Or.inl ⟨by rfl, ?_⟩) (fun h0 => by assumption) ?_
      rotate_left
      · intro wS
        go_simp
        try with_reducible rfl
      try simp only [Act.put, List.setIfInBounds_toArray, List.set_cons_zero, List.set_cons_succ]
      refine wpAnyL_free (i := 6) (v := ?_) (some 25) rfl rfl (by kernel_rfl) (by kernel_rfl) (by kernel_rfl) (by decide) (fun _ _ _ h => h) (Or.inl ⟨by rfl, ?_⟩) (fun h0 => by assumption) ?_
      rotate_left
      · intro wS
        go_simp
        try with_reducible rfl
      try simp only [Act.put, List.setIfInBounds_toArray, List.set_cons_zero, List.set_cons_succ]
      refine wpAnyL_free (i := 7) (v := ?_) (some 26) rfl rfl (by kernel_rfl) (by kernel_rfl) (by kernel_rfl) (by decide) (fun _ _ _ h => h) (Or.inl ⟨by rfl, ?_⟩) (fun h0 => by assumption) ?_
      rotate_left
      · intro wS
        go_simp
        try with_reducible rfl
      try simp only [Act.put, List.setIfInBounds_toArray, List.set_cons_zero, List.set_cons_succ]
      refine wpAnyL_take (i := 8) (v := ?_) (some 27) rfl rfl (by kernel_rfl) (by kernel_rfl) (by kernel_rfl) (by kernel_rfl) (by kernel_rfl) (fun _ _ _ h => h) (Or.inl ⟨by rfl, ?_⟩) (by assumption) ?_
      rotate_left
      · intro wS hSw
        try dsimp only at hSw
        go_simp
        try with_reducible rfl
      try simp only [Act.put, List.setIfInBounds_toArray, List.set_cons_zero, List.set_cons_succ]
      refine wpAnyL_free (i := 9) (v := ?_) (some 28) rfl rfl (by kernel_rfl) (by kernel_rfl) (by kernel_rfl) (by decide) (fun _ _ _ h => h) (Or.inl ⟨by rfl, ?_⟩) (fun h0 => by assumption) ?_
      rotate_left
      · intro wS
        go_simp
        try with_reducible rfl
      try simp only [Act.put, List.setIfInBounds_toArray, List.set_cons_zero, List.set_cons_succ]
      refine wpAnyL_free (i := 10) (v := ?_) (some 29) rfl rfl (by kernel_rfl) (by kernel_rfl) (by kernel_rfl) (by decide) (fun _ _ _ h => h) (Or.inl ⟨by rfl, ?_⟩) (fun h0 => by assumption) ?_
      rotate_left
      · intro wS
        go_simp
        try with_reducible rfl
      try simp only [Act.put, List.setIfInBounds_toArray, List.set_cons_zero, List.set_cons_succ]
      refine wpAnyL_take (i := 11) (v := ?_) (some 30) rfl rfl (by kernel_rfl) (by kernel_rfl) (by kernel_rfl) (by kernel_rfl) (by kernel_rfl) (fun _ _ _ h => h) (Or.inl ⟨by rfl, ?_⟩) (by assumption) ?_
      rotate_left
      · intro wS hSw
        try dsimp only at hSw
        go_simp
        try with_reducible rfl
      try simp only [Act.put, List.setIfInBounds_toArray, List.set_cons_zero, List.set_cons_succ]
      refine wpAnyL_free (i := 12) (v := ?_) (some 31) rfl rfl (by kernel_rfl) (by kernel_rfl) (by kernel_rfl) (by decide) (fun _ _ _ h => h) (Or.inl ⟨by rfl, ?_⟩) (fun h0 => by assumption) ?_
      rotate_left
      · intro wS
        go_simp
        try with_reducible rfl
      try simp only [Act.put, List.setIfInBounds_toArray, List.set_cons_zero, List.set_cons_succ]
      refine wpAnyL_free (i := 13) (v := ?_) (some 32) rfl rfl (by kernel_rfl) (by kernel_rfl) (by kernel_rfl) (by decide) (fun _ _ _ h => h) (Or.inl ⟨by rfl, ?_⟩) (fun h0 => by assumption) ?_
      rotate_left
      · intro wS
        go_simp
        try with_reducible rfl
      try simp only [Act.put, List.setIfInBounds_toArray, List.set_cons_zero, List.set_cons_succ]
      refine wpAnyL_free (i := 14) (v := ?_) (some 33) rfl rfl (by kernel_rfl) (by kernel_rfl) (by kernel_rfl) (by decide) (fun _ _ _ h => h) (Or.inl ⟨by rfl, ?_⟩) (fun h0 => by assumption) ?_
      rotate_left
      · intro wS
        go_simp
        try with_reducible rfl
      try simp only [Act.put, List.setIfInBounds_toArray, List.set_cons_zero, List.set_cons_succ]
      refine wpAnyL_free (i := 15) (v := ?_) (some 34) rfl rfl (by kernel_rfl) (by kernel_rfl) (by kernel_rfl) (by decide) (fun _ _ _ h => h) (Or.inl ⟨by rfl, ?_⟩) (fun h0 => by assumption) ?_
      rotate_left
      · intro wS
        go_simp
        try with_reducible rfl
      try simp only [Act.put, List.setIfInBounds_toArray, List.set_cons_zero, List.set_cons_succ]
      refine wpAnyL_take (i := 16) (v := ?_) (some 35) rfl rfl (by kernel_rfl) (by kernel_rfl) (by kernel_rfl) (by kernel_rfl) (by kernel_rfl) (fun _ _ _ h => h) (Or.inl ⟨by rfl, ?_⟩) (by assumption) ?_
      rotate_left
      · intro wS hSw
        try dsimp only at hSw
        go_simp
        try with_reducible rfl
      try simp only [Act.put, List.setIfInBounds_toArray, List.set_cons_zero, List.set_cons_succ]
      refine wpAnyL_free (i := 17) (v := ?_) (some 36) rfl rfl (by kernel_rfl) (by kernel_rfl) (by kernel_rfl) (by decide) (fun _ _ _ h => h) (Or.inl ⟨by rfl, ?_⟩) (fun h0 => by assumption) ?_
      rotate_left
      · intro wS
        go_simp
        try with_reducible rfl
      try simp only [Act.put, List.setIfInBounds_toArray, List.set_cons_zero, List.set_cons_succ]
      refine wpAnyL_free (i := 18) (v := ?_) (some 37) rfl rfl (by kernel_rfl) (by kernel_rfl) (by kernel_rfl) (by decide) (fun _ _ _ h => h) (Or.inl ⟨by rfl, ?_⟩) (fun h0 => by assumption) ?_
      rotate_left
      · intro wS
        go_simp
        try with_reducible rfl
      try simp only [Act.put, List.setIfInBounds_toArray, List.set_cons_zero, List.set_cons_succ]
      refine wpAnyL_take (i := 19) (v := ?_) (some 38) rfl rfl (by kernel_rfl) (by kernel_rfl) (by kernel_rfl) (by kernel_rfl) (by kernel_rfl) (fun _ _ _ h => h) (Or.inl ⟨by rfl, ?_⟩) (by assumption) ?_
      rotate_left
      · intro wS hSw
        try dsimp only at hSw
        go_simp
        try with_reducible rfl
      try simp only [Act.put, List.setIfInBounds_toArray, List.set_cons_zero, List.set_cons_succ]
      refine wpAnyL_free (i := 20) (v := ?_) (some 39) rfl rfl (by kernel_rfl) (by kernel_rfl) (by kernel_rfl) (by decide) (fun _ _ _ h => h) (Or.inl ⟨by rfl, ?_⟩) (fun h0 => by assumption) ?_
      rotate_left
      · intro wS
        go_simp
        try with_reducible rfl
      try simp only [Act.put, List.setIfInBounds_toArray, List.set_cons_zero, List.set_cons_succ]
      refine wpAnyL_free (i := 21) (v := ?_) (some 40) rfl rfl (by kernel_rfl) (by kernel_rfl) (by kernel_rfl) (by decide) (fun _ _ _ h => h) (Or.inl ⟨by rfl, ?_⟩) (fun h0 => by assumption) ?_
      rotate_left
      · intro wS
        go_simp
        try with_reducible rfl
      try simp only [Act.put, List.setIfInBounds_toArray, List.set_cons_zero, List.set_cons_succ]
      refine wpAnyL_free (i := 22) (v := ?_) (some 41) rfl rfl (by kernel_rfl) (by kernel_rfl) (by kernel_rfl) (by decide) (fun _ _ _ h => h) (Or.inl ⟨by rfl, ?_⟩) (fun h0 => by assumption) ?_
      rotate_left
      · intro wS
        go_simp
        try with_reducible rfl
      try simp only [Act.put, List.setIfInBounds_toArray, List.set_cons_zero, List.set_cons_succ]
      refine wpAnyL_ready (rs := [23]) (by kernel_rfl) (by simp) ?_
      refine AllReadyL.cons rfl (fun K hK => ?_) AllReadyL.nil
      go_simp; go_at_call 189; refine (l07ModP p z HP.out HZ.out _).mono ?_; rintro e w5 ⟨rfl, rfl⟩
      refine hK.out _ _ ?_ (fun hHeld => ?_)
      · exact hHeld
      clear hK K
      try simp only [Act.put, List.setIfInBounds_toArray, List.set_cons_zero, List.set_cons_succ]
      refine wpAnyL_free (i := 24) (v := ?_) (some 43) rfl rfl (by kernel_rfl) (by kernel_rfl) (by kernel_rfl) (by decide) (fun _ _ _ h => h) (Or.inl ⟨by rfl, ?_⟩) (fun h0 => by assumption) ?_
      rotate_left
      · intro wS
        go_simp
        try with_reducible rfl
      try simp only [Act.put, List.setIfInBounds_toArray, List.set_cons_zero, List.set_cons_succ]
      refine wpAnyL_ready (rs := [25]) (by kernel_rfl) (by simp) ?_
      refine AllReadyL.last rfl (by kernel_rfl) (fun K hK => ?_) AllReadyL.nil
      go_simp
      refine hK.out _ _ ?_
      clear hK K
      try simp only [Act.put, List.setIfInBounds_toArray, List.set_cons_zero, List.set_cons_succ]
      refine wpAnyL_done (by kernel_rfl) ?_ _
      refine NoPanic.normal ?_
      clear hHeld d0 d1 d2 d3
      have HST2 := Lib.hid (HST.out.setL k ((intN xs k - t * intN ys k) % p))
      go_wp2
      go_roundw
      case rel => exact ⟨k + 1, by omega, by go_num, by have h := HST2.out; rw [lessK_set, HZE.out] at h; exact h.drewN 1, (HBL.out.setCell (by show B ≤ g; exact HBG.out) _).drew, (HRS.out.set _ _ (by exact .inr (.inl rfl))).drewN 1⟩
      case measure => simp [intOf]; omega
    · obtain rfl : k = xs.length := by omega
      have d0 := HST.out.right
      have hfr := HST.out.free
      have d1 := HOR.out.right
      have hmb := prodT HT.out hq
      obtain ⟨z, hze⟩ : ∃ z, r - t * q = z := ⟨_, rfl⟩
      have HZ : Hid (-9 ≤ z ∧ z ≤ 100) := Lib.hid (by omega)
      have hw1 : IntKind.i64.wrap (t * q) = t * q := IntWalk.i64_in _ (by omega)
      have hw2 : IntKind.i64.wrap (r - t * q) = z := by rw [hze]; exact IntWalk.i64_in _ (by have := HZ.out; omega)
      have HZR := Lib.hid hze
      clear hze hmb
      go_wp2
      refine wp_region_noPanic ?_
      refine wp_region_late (S := (fun w' => w'.cell? ⟨rb, ro + 1, none⟩ = some (.int .i64 r) ∧ w'.cell? ⟨ob, oo + 1, none⟩ = some (.int .i64 q))) [16] (by kernel_rfl) ?_ (fun hHeld => ?_)
      · exact ⟨d0, d1⟩
      refine wpAnyL_free (i := 0) (v := ?_) (some 44) rfl rfl (by kernel_rfl) (by kernel_rfl) (by kernel_rfl) (by decide) (fun _ _ _ h => h) (Or.inl ⟨by rfl, ?_⟩) (fun h0 => by assumption) ?_
      rotate_left
      · intro wS
        go_simp
        try with_reducible rfl
      try simp only [Act.put, List.setIfInBounds_toArray, List.set_cons_zero, List.set_cons_succ]
      refine wpAnyL_free (i := 1) (v := ?_) (some 45) rfl rfl (by kernel_rfl) (by kernel_rfl) (by kernel_rfl) (by decide) (fun _ _ _ h => h) (Or.inl ⟨by rfl, ?_⟩) (fun h0 => by assumption) ?_
      rotate_left
      · intro wS
        go_simp
        try with_reducible rfl
      try simp only [Act.put, List.setIfInBounds_toArray, List.set_cons_zero, List.set_cons_succ]
      refine wpAnyL_free (i := 2) (v := ?_) (some 46) rfl rfl (by kernel_rfl) (by kernel_rfl) (by kernel_rfl) (by decide) (fun _ _ _ h => h) (Or.inl ⟨by rfl, ?_⟩) (fun h0 => by assumption) ?_
      rotate_left
      · intro wS
        go_simp
        try with_reducible rfl
      try simp only [Act.put, List.setIfInBounds_toArray, List.set_cons_zero, List.set_cons_succ]
      refine wpAnyL_free (i := 3) (v := ?_) (some 47) rfl rfl (by kernel_rfl) (by kernel_rfl) (by kernel_rfl) (by decide) (fun _ _ _ h => h) (Or.inl ⟨by rfl, ?_⟩) (fun h0 => by assumption) ?_
      rotate_left
      · intro wS
        go_simp
        try with_reducible rfl
      try simp only [Act.put, List.setIfInBounds_toArray, List.set_cons_zero, List.set_cons_succ]
      refine wpAnyL_take (i := 4) (v := ?_) (some 48) rfl rfl (by kernel_rfl) (by kernel_rfl) (by kernel_rfl) (by kernel_rfl) (by kernel_rfl) (fun _ _ _ h => h) (Or.inl ⟨by rfl, ?_⟩) (by assumption) ?_
      rotate_left
      · intro wS hSw
        try dsimp only at hSw
        go_simp
        try with_reducible rfl
      try simp only [Act.put, List.setIfInBounds_toArray, List.set_cons_zero, List.set_cons_succ]
      refine wpAnyL_free (i := 5) (v := ?_) (some 49) rfl rfl (by kernel_rfl) (by kernel_rfl) (by kernel_rfl) (by decide) (fun _ _ _ h => h) (Or.inl ⟨by rfl, ?_⟩) (fun h0 => by assumption) ?_
      rotate_left
      · intro wS
        go_simp
        try with_reducible rfl
      try simp only [Act.put, List.setIfInBounds_toArray, List.set_cons_zero, List.set_cons_succ]
      refine wpAnyL_free (i := 6) (v := ?_) (some 50) rfl rfl (by kernel_rfl) (by kernel_rfl) (by kernel_rfl) (by decide) (fun _ _ _ h => h) (Or.inl ⟨by rfl, ?_⟩) (fun h0 => by assumption) ?_
      rotate_left
      · intro wS
        go_simp
        try with_reducible rfl
      try simp only [Act.put, List.setIfInBounds_toArray, List.set_cons_zero, List.set_cons_succ]
      refine wpAnyL_free (i := 7) (v := ?_) (some 51) rfl rfl (by kernel_rfl) (by kernel_rfl) (by kernel_rfl) (by decide) (fun _ _ _ h => h) (Or.inl ⟨by rfl, ?_⟩) (fun h0 => by assumption) ?_
      rotate_left
      · intro wS
        go_simp
        try with_reducible rfl
      try simp only [Act.put, List.setIfInBounds_toArray, List.set_cons_zero, List.set_cons_succ]
      refine wpAnyL_free (i := 8) (v := ?_) (some 52) rfl rfl (by kernel_rfl) (by kernel_rfl) (by kernel_rfl) (by decide) (fun _ _ _ h => h) (Or.inl ⟨by rfl, ?_⟩) (fun h0 => by assumption) ?_
      rotate_left
      · intro wS
        go_simp
        try with_reducible rfl
      try simp only [Act.put, List.setIfInBounds_toArray, List.set_cons_zero, List.set_cons_succ]
      refine wpAnyL_take (i := 9) (v := ?_) (some 53) rfl rfl (by kernel_rfl) (by kernel_rfl) (by kernel_rfl) (by kernel_rfl) (by kernel_rfl) (fun _ _ _ h => h) (Or.inl ⟨by rfl, ?_⟩) (by assumption) ?_
      rotate_left
      · intro wS hSw
        try dsimp only at hSw
        go_simp
        try with_reducible rfl
      try simp only [Act.put, List.setIfInBounds_toArray, List.set_cons_zero, List.set_cons_succ]
      refine wpAnyL_free (i := 10) (v := ?_) (some 54) rfl rfl (by kernel_rfl) (by kernel_rfl) (by kernel_rfl) (by decide) (fun _ _ _ h => h) (Or.inl ⟨by rfl, ?_⟩) (fun h0 => by assumption) ?_
      rotate_left
      · intro wS
        go_simp
        try with_reducible rfl
      try simp only [Act.put, List.setIfInBounds_toArray, List.set_cons_zero, List.set_cons_succ]
      refine wpAnyL_free (i := 11) (v := ?_) (some 55) rfl rfl (by kernel_rfl) (by kernel_rfl) (by kernel_rfl) (by decide) (fun _ _ _ h => h) (Or.inl ⟨by rfl, ?_⟩) (fun h0 => by assumption) ?_
      rotate_left
      · intro wS
        go_simp
        try with_reducible rfl
      try simp only [Act.put, List.setIfInBounds_toArray, List.set_cons_zero, List.set_cons_succ]
      refine wpAnyL_free (i := 12) (v := ?_) (some 56) rfl rfl (by kernel_rfl) (by kernel_rfl) (by kernel_rfl) (by decide) (fun _ _ _ h => h) (Or.inl ⟨by rfl, ?_⟩) (fun h0 => by assumption) ?_
      rotate_left
      · intro wS
        go_simp
        try with_reducible rfl
      try simp only [Act.put, List.setIfInBounds_toArray, List.set_cons_zero, List.set_cons_succ]
      refine wpAnyL_ready (rs := [13]) (by kernel_rfl) (by simp) ?_
      refine AllReadyL.cons rfl (fun K hK => ?_) AllReadyL.nil
      go_simp; go_at_call 189; refine (l07ModP p z HP.out HZ.out _).mono ?_; rintro e w5 ⟨rfl, rfl⟩
      refine hK.out _ _ ?_ (fun hHeld => ?_)
      · exact hHeld
      clear hK K
      try simp only [Act.put, List.setIfInBounds_toArray, List.set_cons_zero, List.set_cons_succ]
      refine wpAnyL_free (i := 14) (v := ?_) (some 58) rfl rfl (by kernel_rfl) (by kernel_rfl) (by kernel_rfl) (by decide) (fun _ _ _ h => h) (Or.inl ⟨by rfl, ?_⟩) (fun h0 => by assumption) ?_
      rotate_left
      · intro wS
        go_simp
        try with_reducible rfl
      try simp only [Act.put, List.setIfInBounds_toArray, List.set_cons_zero, List.set_cons_succ]
      refine wpAnyL_free (i := 15) (v := ?_) (some 59) rfl rfl (by kernel_rfl) (by kernel_rfl) (by kernel_rfl) (by decide) (fun _ _ _ h => h) (Or.inl ⟨by rfl, ?_⟩) (fun h0 => by assumption) ?_
      rotate_left
      · intro wS
        go_simp
        try with_reducible rfl
      try simp only [Act.put, List.setIfInBounds_toArray, List.set_cons_zero, List.set_cons_succ]
      refine wpAnyL_ready (rs := [16]) (by kernel_rfl) (by simp) ?_
      refine AllReadyL.last rfl (by kernel_rfl) (fun K hK => ?_) AllReadyL.nil
      go_simp
      refine hK.out _ _ ?_
      clear hK K
      try simp only [Act.put, List.setIfInBounds_toArray, List.set_cons_zero, List.set_cons_succ]
      refine wpAnyL_done (by kernel_rfl) ?_ _
      refine NoPanic.normal ?_
      have HST2 := Lib.hid (HST.out.setR (z % p))
      have HZE : Hid ((r - t * q) % p = z % p) := Lib.hid (by rw [HZR.out])
      clear hHeld d0 d1
      obtain ⟨w9, hw9⟩ : ∃ w9, (wr.setCell ⟨rb, ro + 1, none⟩ (.int .i64 (z % p))).drew = w9 := ⟨_, rfl⟩
      have S1 : Hid (RowSt w9 rb ro B (.slice la xs.length lc) (lessK p t xs ys xs.length) ((r - t * q) % p) (.slice ba bs.length bc) bs) := Lib.hid (by rw [← hw9, HZE.out]; exact HST2.out.drewN 1)
      have B1 : Hid (Below B w w9) := Lib.hid (by rw [← hw9]; exact (HBL.out.setCell (by show B ≤ rb; exact hB) _).drew)
      have R1 : Hid (RestK rb (Value.slice la xs.length lc).ownBlock (Value.slice ba bs.length bc).ownBlock w w9) := Lib.hid (by rw [← hw9]; exact (HRS.out.set _ _ (.inl rfl)).drewN 1)
      rw [show (wr.setCell ⟨rb, ro + 1, none⟩ (.int .i64 (z % p))).drew = w9 from hw9]
      clear hw9 HST HBL HRS HST2 HOR
      go_wp2
      go_loopw [9] (fun i wr => ∃ k : Nat, k ≤ bs.length ∧ i = .int .i64 k ∧ RowSt wr rb ro B (.slice la xs.length lc) (lessK p t xs ys xs.length) ((r - t * q) % p) (.slice ba bs.length bc) (lessK p t bs zs k) ∧ Below B w wr ∧ RestK rb (Value.slice la xs.length lc).ownBlock (Value.slice ba bs.length bc).ownBlock w wr) (fun i _ => bs.length - (intOf i).toNat)
      case atStart => exact ⟨0, Nat.zero_le _, rfl, by rw [lessK_zero]; exact S1.out, B1.out, R1.out⟩
      case round =>
        obtain ⟨k, hk, rfl, hst, hbl, hrs⟩ := hrel
        have HST := Lib.hid hst
        have HBL := Lib.hid hbl
        have HRS := Lib.hid hrs
        have HOR := Lib.hid (HO.out wr hrs)
        have hlf := hst.by_
        clear hst hbl hrs
        by_cases hlt : k < bs.length
        · obtain ⟨g, rfl, hBg, hgs⟩ : ∃ g, ba = some ⟨g, 0, none⟩ ∧ B ≤ g ∧ g < wr.heap.size := by
            rcases HST.out.ownB.rowIn with ⟨_, h0⟩ | ⟨g, c', hv, hB, hg, _, _⟩
            · have := congrArg List.length h0
              simp only [lessK_len, List.length_nil] at this
              omega
            · simp only [Value.slice.injEq] at hv
              exact ⟨g, hv.1, hB, hg⟩
          have HBG := Lib.hid hBg
          have hfr : wr.frozen? ⟨g, k, none⟩ = false := HST.out.ownB.free k
          have hx : wr.cell? ⟨g, k, none⟩ = some (.int .i64 (intN bs k)) := by
            have h := HST.out.ownB.cell_of k (by rw [lessK_len]; exact hlt)
            rwa [lessK_at _ _ _ _ _ _ hlt, if_neg (by omega)] at h
          obtain ⟨oa, oc, hoc, hor⟩ := HOR.out.by_
          obtain ⟨b2, off2, rfl, hy⟩ : ∃ b2 off2, oa = some ⟨b2, off2, none⟩ ∧ wr.cell? ⟨b2, off2 + k, none⟩ = some (.int .i64 (intN zs k)) := by
            obtain ⟨a', c', hv, _, hc⟩ := hor
            simp only [Value.slice.injEq] at hv
            obtain ⟨rfl, _, rfl⟩ := hv
            obtain ⟨b2, off2, rfl, hcell⟩ := hc (by have := HLENB.out; omega)
            exact ⟨b2, off2, rfl, hcell k (by have := HLENB.out; omega)⟩
          have hxb := HXB.out k
          have hyb := HYB.out k
          obtain ⟨x, hxe⟩ : ∃ x, intN bs k = x := ⟨_, rfl⟩
          obtain ⟨y, hye⟩ : ∃ y, intN zs k = y := ⟨_, rfl⟩
          rw [hxe] at hx hxb
          rw [hye] at hy hyb
          have hmb := prodT HT.out hyb
          obtain ⟨z, hze⟩ : ∃ z, x - t * y = z := ⟨_, rfl⟩
          have HZ : Hid (-9 ≤ z ∧ z ≤ 100) := Lib.hid (by omega)
          have HZE : Hid ((intN bs k - t * intN zs k) % p = z % p) := Lib.hid (by rw [hxe, hye, hze])
          have hw1 : IntKind.i64.wrap (t * y) = t * y := IntWalk.i64_in _ (by omega)
          have hw2 : IntKind.i64.wrap (x - t * y) = z := by rw [hze]; exact IntWalk.i64_in _ (by have := HZ.out; omega)
          have hlt' : (k : Int) < (bs.length : Int) := by omega
          have hlt2 : (k : Int) < (zs.length : Int) := by have := HLENB.out; omega
          clear hor hxb hyb hxe hye hze hmb hgs hBg
          have d0 := hlf
          have d1 := hx
          have d2 := hoc
          have d3 := hy
          clear hlf hx hoc hy
          go_wp2
          refine wp_region_noPanic ?_
          refine wp_region_late (S := (fun w' => w'.cell? ⟨rb, ro + 2, none⟩ = some (.slice (some ⟨g, 0, none⟩) bs.length bc) ∧ w'.cell? ⟨g, k, none⟩ = some (.int .i64 x) ∧ w'.cell? ⟨ob, oo + 2, none⟩ = some (.slice (some ⟨b2, off2, none⟩) zs.length oc) ∧ w'.cell? ⟨b2, off2 + k, none⟩ = some (.int .i64 y))) [25] (by kernel_rfl) ?_ (fun hHeld => ?_)
          · exact ⟨d0, d1, d2, d3⟩
          refine wpAnyL_free (i := 0) (v := ?_) (some 69) rfl rfl (by kernel_rfl) (by kernel_rfl) (by kernel_rfl) (by decide) (fun _ _ _ h => h) (Or.inl ⟨by rfl, ?_⟩) (fun h0 => by assumption) ?_
          rotate_left
          · intro wS
            go_simp
            try with_reducible rfl
          try simp only [Act.put, List.setIfInBounds_toArray, List.set_cons_zero, List.set_cons_succ]
          refine wpAnyL_free (i := 1) (v := ?_) (some 70) rfl rfl (by kernel_rfl) (by kernel_rfl) (by kernel_rfl) (by decide) (fun _ _ _ h => h) (Or.inl ⟨by rfl, ?_⟩) (fun h0 => by assumption) ?_
          rotate_left
          · intro wS
            go_simp
            try with_reducible rfl
          try simp only [Act.put, List.setIfInBounds_toArray, List.set_cons_zero, List.set_cons_succ]
          refine wpAnyL_free (i := 2) (v := ?_) (some 71) rfl rfl (by kernel_rfl) (by kernel_rfl) (by kernel_rfl) (by decide) (fun _ _ _ h => h) (Or.inl ⟨by rfl, ?_⟩) (fun h0 => by assumption) ?_
          rotate_left
          · intro wS
            go_simp
            try with_reducible rfl
          try simp only [Act.put, List.setIfInBounds_toArray, List.set_cons_zero, List.set_cons_succ]
          refine wpAnyL_take (i := 3) (v := ?_) (some 72) rfl rfl (by kernel_rfl) (by kernel_rfl) (by kernel_rfl) (by kernel_rfl) (by kernel_rfl) (fun _ _ _ h => h) (Or.inl ⟨by rfl, ?_⟩) (by assumption) ?_
          rotate_left
          · intro wS hSw
            try dsimp only at hSw
            go_simp
            try with_reducible rfl
          try simp only [Act.put, List.setIfInBounds_toArray, List.set_cons_zero, List.set_cons_succ]
          refine wpAnyL_free (i := 4) (v := ?_) (some 73) rfl rfl (by kernel_rfl) (by kernel_rfl) (by kernel_rfl) (by decide) (fun _ _ _ h => h) (Or.inl ⟨by rfl, ?_⟩) (fun h0 => by assumption) ?_
          rotate_left
          · intro wS
            go_simp
            try with_reducible rfl
          try simp only [Act.put, List.setIfInBounds_toArray, List.set_cons_zero, List.set_cons_succ]
          refine wpAnyL_free (i := 5) (v := ?_) (some 74) rfl rfl (by kernel_rfl) (by kernel_rfl) (by kernel_rfl) (by decide) (fun _ _ _ h => h) (Or.inl ⟨by rfl, ?_⟩) (fun h0 => by assumption) ?_
          rotate_left
          · intro wS
            go_simp
            try with_reducible rfl
          try simp only [Act.put, List.setIfInBounds_toArray, List.set_cons_zero, List.set_cons_succ]
          refine wpAnyL_free (i := 6) (v := ?_) (some 75) rfl rfl (by kernel_rfl) (by kernel_rfl) (by kernel_rfl) (by decide) (fun _ _ _ h => h) (Or.inl ⟨by rfl, ?_⟩) (fun h0 => by assumption) ?_
          rotate_left
          · intro wS
            go_simp
            try with_reducible rfl
          try simp only [Act.put, List.setIfInBounds_toArray, List.set_cons_zero, List.set_cons_succ]
          refine wpAnyL_free (i := 7) (v := ?_) (some 76) rfl rfl (by kernel_rfl) (by kernel_rfl) (by kernel_rfl) (by decide) (fun _ _ _ h => h) (Or.inl ⟨by rfl, ?_⟩) (fun h0 => by assumption) ?_
          rotate_left
          · intro wS
            go_simp
            try with_reducible rfl
          try simp only [Act.put, List.setIfInBounds_toArray, List.set_cons_zero, List.set_cons_succ]
          refine wpAnyL_take (i := 8) (v := ?_) (some 77) rfl rfl (by kernel_rfl) (by kernel_rfl) (by kernel_rfl) (by kernel_rfl) (by kernel_rfl) (fun _ _ _ h => h) (Or.inl ⟨by rfl, ?_⟩) (by assumption) ?_
          rotate_left
          · intro wS hSw
            try dsimp only at hSw
            go_simp
            try with_reducible rfl
          try simp only [Act.put, List.setIfInBounds_toArray, List.set_cons_zero, List.set_cons_succ]
          refine wpAnyL_free (i := 9) (v := ?_) (some 78) rfl rfl (by kernel_rfl) (by kernel_rfl) (by kernel_rfl) (by decide) (fun _ _ _ h => h) (Or.inl ⟨by rfl, ?_⟩) (fun h0 => by assumption) ?_
          rotate_left
          · intro wS
            go_simp
            try with_reducible rfl
          try simp only [Act.put, List.setIfInBounds_toArray, List.set_cons_zero, List.set_cons_succ]
          refine wpAnyL_free (i := 10) (v := ?_) (some 79) rfl rfl (by kernel_rfl) (by kernel_rfl) (by kernel_rfl) (by decide) (fun _ _ _ h => h) (Or.inl ⟨by rfl, ?_⟩) (fun h0 => by assumption) ?_
          rotate_left
          · intro wS
            go_simp
            try with_reducible rfl
          try simp only [Act.put, List.setIfInBounds_toArray, List.set_cons_zero, List.set_cons_succ]
          refine wpAnyL_take (i := 11) (v := ?_) (some 80) rfl rfl (by kernel_rfl) (by kernel_rfl) (by kernel_rfl) (by kernel_rfl) (by kernel_rfl) (fun _ _ _ h => h) (Or.inl ⟨by rfl, ?_⟩) (by assumption) ?_
          rotate_left
          · intro wS hSw
            try dsimp only at hSw
            go_simp
            try with_reducible rfl
          try simp only [Act.put, List.setIfInBounds_toArray, List.set_cons_zero, List.set_cons_succ]
          refine wpAnyL_free (i := 12) (v := ?_) (some 81) rfl rfl (by kernel_rfl) (by kernel_rfl) (by kernel_rfl) (by decide) (fun _ _ _ h => h) (Or.inl ⟨by rfl, ?_⟩) (fun h0 => by assumption) ?_
          rotate_left
          · intro wS
            go_simp
            try with_reducible rfl
          try simp only [Act.put, List.setIfInBounds_toArray, List.set_cons_zero, List.set_cons_succ]
          refine wpAnyL_free (i := 13) (v := ?_) (some 82) rfl rfl (by kernel_rfl) (by kernel_rfl) (by kernel_rfl) (by decide) (fun _ _ _ h => h) (Or.inl ⟨by rfl, ?_⟩) (fun h0 => by assumption) ?_
          rotate_left
          · intro wS
            go_simp
            try with_reducible rfl
          try simp only [Act.put, List.setIfInBounds_toArray, List.set_cons_zero, List.set_cons_succ]
          refine wpAnyL_free (i := 14) (v := ?_) (some 83) rfl rfl (by kernel_rfl) (by kernel_rfl) (by kernel_rfl) (by decide) (fun _ _ _ h => h) (Or.inl ⟨by rfl, ?_⟩) (fun h0 => by assumption) ?_
          rotate_left
          · intro wS
            go_simp
            try with_reducible rfl
          try simp only [Act.put, List.setIfInBounds_toArray, List.set_cons_zero, List.set_cons_succ]
          refine wpAnyL_free (i := 15) (v := ?_) (some 84) rfl rfl (by kernel_rfl) (by kernel_rfl) (by kernel_rfl) (by decide) (fun _ _ _ h => h) (Or.inl ⟨by rfl, ?_⟩) (fun h0 => by assumption) ?_
          rotate_left
          · intro wS
            go_simp
            try with_reducible rfl
          try simp only [Act.put, List.setIfInBounds_toArray, List.set_cons_zero, List.set_cons_succ]
          refine wpAnyL_take (i := 16) (v := ?_) (some 85) rfl rfl (by kernel_rfl) (by kernel_rfl) (by kernel_rfl) (by kernel_rfl) (by kernel_rfl) (fun _ _ _ h => h) (Or.inl ⟨by rfl, ?_⟩) (by assumption) ?_
          rotate_left
          · intro wS hSw
            try dsimp only at hSw
            go_simp
            try with_reducible rfl
          try simp only [Act.put, List.setIfInBounds_toArray, List.set_cons_zero, List.set_cons_succ]
          refine wpAnyL_free (i := 17) (v := ?_) (some 86) rfl rfl (by kernel_rfl) (by kernel_rfl) (by kernel_rfl) (by decide) (fun _ _ _ h => h) (Or.inl ⟨by rfl, ?_⟩) (fun h0 => by assumption) ?_
          rotate_left
          · intro wS
            go_simp
            try with_reducible rfl
          try simp only [Act.put, List.setIfInBounds_toArray, List.set_cons_zero, List.set_cons_succ]
          refine wpAnyL_free (i := 18) (v := ?_) (some 87) rfl rfl (by kernel_rfl) (by kernel_rfl) (by kernel_rfl) (by decide) (fun _ _ _ h => h) (Or.inl ⟨by rfl, ?_⟩) (fun h0 => by assumption) ?_
          rotate_left
          · intro wS
            go_simp
            try with_reducible rfl
          try simp only [Act.put, List.setIfInBounds_toArray, List.set_cons_zero, List.set_cons_succ]
          refine wpAnyL_take (i := 19) (v := ?_) (some 88) rfl rfl (by kernel_rfl) (by kernel_rfl) (by kernel_rfl) (by kernel_rfl) (by kernel_rfl) (fun _ _ _ h => h) (Or.inl ⟨by rfl, ?_⟩) (by assumption) ?_
          rotate_left
          · intro wS hSw
            try dsimp only at hSw
            go_simp
            try with_reducible rfl
          try simp only [Act.put, List.setIfInBounds_toArray, List.set_cons_zero, List.set_cons_succ]
          refine wpAnyL_free (i := 20) (v := ?_) (some 89) rfl rfl (by kernel_rfl) (by kernel_rfl) (by kernel_rfl) (by decide) (fun _ _ _ h => h) (Or.inl ⟨by rfl, ?_⟩) (fun h0 => by assumption) ?_
          rotate_left
          · intro wS
            go_simp
            try with_reducible rfl
          try simp only [Act.put, List.setIfInBounds_toArray, List.set_cons_zero, List.set_cons_succ]
          refine wpAnyL_free (i := 21) (v := ?_) (some 90) rfl rfl (by kernel_rfl) (by kernel_rfl) (by kernel_rfl) (by decide) (fun _ _ _ h => h) (Or.inl ⟨by rfl, ?_⟩) (fun h0 => by assumption) ?_
          rotate_left
          · intro wS
            go_simp
            try with_reducible rfl
          try simp only [Act.put, List.setIfInBounds_toArray, List.set_cons_zero, List.set_cons_succ]
          refine wpAnyL_free (i := 22) (v := ?_) (some 91) rfl rfl (by kernel_rfl) (by kernel_rfl) (by kernel_rfl) (by decide) (fun _ _ _ h => h) (Or.inl ⟨by rfl, ?_⟩) (fun h0 => by assumption) ?_
          rotate_left
          · intro wS
            go_simp
            try with_reducible rfl
          try simp only [Act.put, List.setIfInBounds_toArray, List.set_cons_zero, List.set_cons_succ]
          refine wpAnyL_ready (rs := [23]) (by kernel_rfl) (by simp) ?_
          refine AllReadyL.cons rfl (fun K hK => ?_) AllReadyL.nil
          go_simp; go_at_call 189; refine (l07ModP p z HP.out HZ.out _).mono ?_; rintro e w5 ⟨rfl, rfl⟩
          refine hK.out _ _ ?_ (fun hHeld => ?_)
          · exact hHeld
          clear hK K
          try simp only [Act.put, List.setIfInBounds_toArray, List.set_cons_zero, List.set_cons_succ]
          refine wpAnyL_free (i := 24) (v := ?_) (some 93) rfl rfl (by kernel_rfl) (by kernel_rfl) (by kernel_rfl) (by decide) (fun _ _ _ h => h) (Or.inl ⟨by rfl, ?_⟩) (fun h0 => by assumption) ?_
          rotate_left
          · intro wS
            go_simp
            try with_reducible rfl
          try simp only [Act.put, List.setIfInBounds_toArray, List.set_cons_zero, List.set_cons_succ]
          refine wpAnyL_ready (rs := [25]) (by kernel_rfl) (by simp) ?_
          refine AllReadyL.last rfl (by kernel_rfl) (fun K hK => ?_) AllReadyL.nil
          go_simp
          refine hK.out _ _ ?_
          clear hK K
          try simp only [Act.put, List.setIfInBounds_toArray, List.set_cons_zero, List.set_cons_succ]
          refine wpAnyL_done (by kernel_rfl) ?_ _
          refine NoPanic.normal ?_
          clear hHeld d0 d1 d2 d3
          have HST2 := Lib.hid (HST.out.setB k ((intN bs k - t * intN zs k) % p))
          go_wp2
          go_roundw
          case rel => exact ⟨k + 1, by omega, by go_num, by have h := HST2.out; rw [lessK_set, HZE.out] at h; exact h.drewN 1, (HBL.out.setCell (by show B ≤ g; exact HBG.out) _).drew, (HRS.out.set _ _ (by exact .inr (.inr rfl))).drewN 1⟩
          case measure => simp [intOf]; omega
        · obtain rfl : k = bs.length := by omega
          go_wp2
          go_end0
          exact ⟨rfl, HST.out, HBL.out, HRS.out⟩

end Go.Proofs.Ytnbgpeoceejolaa
