/-
  What the model draws for a law: P6Pick, P6Tuple, P6Places, P6Rel; ValuesAt.
-/
import Derived.Test.YtjkbffoaenhhgaaDoorSrc
import Derived.Test.YtjkbffoaenhhgaaDoorSets
import Derived.Test.YtjkbffoaenhhgaaDoorLSet
import Derived.Test.YtjkbffoaenhhgaaDoorGrowAt
import Derived.Test.YtjkbffoaenhhgaaDoorReg
namespace Go.Proofs.YtjkbffoaenhhgaaDoor
open Go.RowKit

theorem info_intD : (Tryd.prog.info? 2).map (fun i => (i.zero, i.size, i.bytes)) = some (some (.int .i64 0), 1, 8) := by kernel_rfl
theorem info_rowD : (Tryd.prog.info? 29).map (fun i => (i.zero, i.size, i.bytes)) = some (some (.slice none 0 0), 1, 24) := by kernel_rfl

/-- The source's blocks are older than B. -/
def SrcOld (B p : Nat) (a : Option Addr) (bs : List Int) : Prop := p < B ∧ ∀ b off, 0 < bs.length → a = some ⟨b, off, none⟩ → b < B
theorem SrcAt.old {w : World} {p : Nat} {a : Option Addr} {n c : Nat} {bs : List Int} {k : Nat} (h : SrcAt w p a n c bs k) : SrcOld w.heap.size p a bs := by
  refine ⟨h.lt, fun b off hl ha => ?_⟩
  subst ha
  obtain ⟨b', off', he, hc⟩ := h.code.some_of 0 hl
  obtain ⟨rfl, rfl⟩ : b' = b ∧ off' = off := by simpa using he.symm
  exact cell_block_lt hc
theorem SrcOld.mono {B B' p : Nat} {a : Option Addr} {bs : List Int} (h : SrcOld B p a bs) (hB : B ≤ B') : SrcOld B' p a bs := ⟨by have := h.1; omega, fun b off hl ha => by have := h.2 b off hl ha; omega⟩
theorem SrcAt.under {w w' : World} {B p : Nat} {a : Option Addr} {n c : Nat} {bs : List Int} {k : Nat} (h : SrcAt w p a n c bs k) (ho : SrcOld B p a bs) (hs : Below B w w') : SrcAt w' p a n c bs k := by
  obtain ⟨g, hg⟩ := h.box
  refine ⟨⟨g, by rw [hs.block p ho.1]; exact hg⟩, ⟨?_, h.code.2⟩, h.far⟩
  obtain ⟨a0, c0, hv, hn, hc⟩ := h.code.1
  refine ⟨a0, c0, hv, hn, fun h0 => ?_⟩
  obtain ⟨b, off, rfl, hcell⟩ := hc h0
  simp only [Value.slice.injEq] at hv
  obtain ⟨rfl, _, _⟩ := hv
  refine ⟨b, off, rfl, fun i hi => ?_⟩
  rw [World.cell?_of_block (hs.block b (ho.2 b off h0 rfl))]
  exact hcell i hi
theorem Only.thenBelow {S : Nat → Prop} {a b c : World} {B : Nat} (h : Only S a b) (hb : Below B b c) (hB : a.heap.size ≤ B) : Only S a c :=
  ⟨hb.os.trans h.os, hb.tape.trans h.tape, hb.output.trans h.output, Nat.le_trans h.size hb.size, fun k hk hs => (hb.block k (by omega)).trans (h.block k hk hs)⟩
theorem GrowAt.only {w w' : World} {w0 B p q : Nat} {x : Int} {L : List (List Int)} {a : Option Addr} {n c : Nat} (h : GrowAt w0 B p x L a n c w) (ho : Only (fun k => k = q) w w') (hq : q < p) : GrowAt w0 B p x L a n c w' := by
  obtain ⟨V, hV⟩ := h.own
  have hlt := h.lt
  refine ⟨h.box.same (ho.block p (Nat.lt_of_lt_of_le h.lt h.le) (by omega)), ⟨V, (hV.same ho.size fun g hg hl => ho.block g hl (by omega)).full⟩, h.lt, Nat.le_trans h.le ho.size, h.base⟩

theorem f6big (a : Option Addr) (n c : Nat) (b : Bool) (w : World) (hb : decide ((4096 : Int) < n) = b) :
    Calls Tryd.prog 4 #[.slice a n c] w fun e w' => e = .returned (.bool b) ∧ w = w' := by
  go_enter Tryd.func4, Tryd.ntmps4
  go_wp2
  go_ret
  subst hb
  exact ⟨rfl, rfl⟩

theorem p6Pick (a : Option Addr) (n c : Nat) (bs : List Int) (m : Nat) (w : World) (h : BytesAt w (.slice a n c) bs) (h2 : 2 ≤ m) (h200 : m ≤ 200) :
    Calls Tryd.prog 5 #[.slice a n c, .int .i64 m] w fun e w' => ∃ v : Nat, e = .returned (.int .i64 v) ∧ v < m ∧ Below w.heap.size w w' := by
  have HS := Lib.hid (SrcAt.start h)
  clear h
  go_enter Tryd.func5, Tryd.ntmps5
  go_wp2_with fail
  refine (l00From _ _ _ _).mono ?_
  rintro e w1 ⟨rfl, rfl⟩
  go_wp2_with fail
  refine (srcPick w.heap.size a n c bs 0 m _ HS.out (by omega) h2 h200).mono ?_
  rintro e w2 ⟨v, rfl, hv, hs2, ho2⟩
  have HB : Hid (Below w.heap.size w w2) := Lib.hid (((Below.refl _ _).alloc (Nat.le_refl _) _).trans (ho2.below (by simp) fun k hk => by omega))
  clear hs2 ho2
  go_wp2
  go_ret
  exact ⟨v, rfl, hv, HB.out⟩

theorem ownRow_snoc (xs : List Int) (v : Nat) : (xs ++ [(v : Int)]).map (Value.int .i64) = xs.map (Value.int .i64) ++ [.int .i64 v] := by simp
theorem tup_snoc {m k : Nat} {xs : List Int} {v : Nat} (h : TupP m k xs) (hv : v < m) : TupP m (k + 1 : Nat) (xs ++ [(v : Int)]) := by
  refine ⟨by have := h.1; simp; omega, fun j hj => ?_⟩
  by_cases hj2 : j < xs.length
  · rw [show intN (xs ++ [(v : Int)]) j = intN xs j from intN_left xs _ j hj2]
    exact h.2 j hj2
  · obtain rfl : j = xs.length := by simp at hj; omega
    simp only [intN]
    rw [List.getD_eq_getElem?_getD, List.getElem?_append_right (Nat.le_refl _)]
    simp
    omega

set_option maxHeartbeats 800000 in
set_option maxRecDepth 100000 in
theorem p6Tuple (a : Option Addr) (n c : Nat) (bs : List Int) (m r : Nat) (w : World) (h : BytesAt w (.slice a n c) bs) (h2 : 2 ≤ m) (h200 : m ≤ 200) (hr : r ≤ 1000) :
    Calls Tryd.prog 8 #[.slice a n c, .int .i64 m, .int .i64 r] w fun e w' => ∃ a' n' c' xs, e = .returned (.slice a' n' c') ∧ TupP m r xs ∧ RowAt w' (.slice a' n' c') xs ∧ Below w.heap.size w w' := by
  obtain ⟨i0, hi, hz0, hz1, hz2⟩ := info_parts info_intD
  have HS := Lib.hid (SrcAt.start h)
  have HB0 := Lib.hid ((Below.refl w.heap.size w).alloc (Nat.le_refl _) (.cells #[.slice a n c, .int .i64 0, .int .u64 0] 66))
  clear h
  go_enter Tryd.func8, Tryd.ntmps8
  go_wp2_with fail
  refine (l00From _ _ _ _).mono ?_
  rintro e w1 ⟨rfl, rfl⟩
  generalize hw0 : w.alloc (.cells #[.slice a n c, .int .i64 0, .int .u64 0] 66) = w0 at *
  have hz : w0.heap.size = w.heap.size + 1 := by rw [← hw0]; simp
  clear hw0
  go_wp2
  go_loopw [8, 9] (fun v i wr => ∃ (k : Nat) (a' : Option Addr) (n' c' : Nat) (xs : List Int), k ≤ r ∧ i = .int .i64 k ∧ v = .slice a' n' c' ∧ TupP m k xs ∧ wr.ownsRow w0.heap.size 2 1 (.slice a' n' c') k (xs.map (Value.int .i64)) ∧ SrcAt wr w.heap.size a n c bs k ∧ Below w.heap.size w wr ∧ w0.heap.size ≤ wr.heap.size) (fun _ i _ => r - (intOf i).toNat)
  case atStart =>
    exact ⟨0, _, _, _, [], Nat.zero_le _, rfl, rfl, ⟨rfl, fun j hj => absurd hj (by simp)⟩, by have h := ownRow_lit w0 w0.heap.size [] (Nat.le_refl _) (by simp); rw [← hz]; exact h, HS.out.below ((Below.refl _ _).alloc (Nat.le_refl _) _), HB0.out.alloc HB0.out.size _, by simp⟩
  case round =>
    obtain ⟨k, a', n', c', xs, hk, rfl, rfl, ht, hown, hs, hbel, hsz⟩ := hrel
    by_cases hlt : k < r
    · have hlt' : (k : Int) < (r : Int) := by omega
      have HT := Lib.hid ht
      have HO := Lib.hid hown
      have HSS := Lib.hid hs
      have HW := Lib.hid hbel
      clear ht hown hs hbel
      go_wp2_with fail
      refine (srcPick w.heap.size a n c bs k m _ HSS.out (by omega) h2 h200).mono ?_
      rintro e w2 ⟨v, rfl, hv, hs2, ho2⟩
      have hsz2 : w0.heap.size ≤ w2.heap.size := Nat.le_trans hsz ho2.size
      have HO2 := Lib.hid (ownsRow_same HO.out fun g hg => ho2.block g (HO.out.lt g hg).2 (by have := (HO.out.lt g hg).1; omega))
      have HW2 : Hid (Below w.heap.size w w2) := Lib.hid (HW.out.trans (ho2.below HW.out.size fun q hq => by omega))
      have HS2 := Lib.hid hs2
      have hc1 := cell_one_new w2 (.int .i64 v) 2
      have HC1' := Lib.hid hc1
      clear hs2 ho2 hc1
      go_wp2_with (at_builtin; refine wpList_append_own _ rfl _ _ 29 rfl w0.heap.size 2 i0 (.int .i64 0) 1 8 Tryd.underlying29 hi hz0 hz1 hz2 rfl (by decide) (.slice a' n' c') k _ rfl (HO2.out.alloc _) ⟨w2.heap.size, 0, none⟩ 1 1 [.int .i64 v] rfl rfl HC1'.out (by simp [Value.oneCell']) (by unfold maxLen; omega) (by omega) (by simp; omega) ?_; intro v' w3 hown' hgrow _; obtain ⟨g', cc', rfl⟩ := ownsRow_succ hown'; have HG3 := Lib.hid hown'; have HR3 := Lib.hid hgrow; clear hown' hgrow)
      go_roundw
      case rel =>
        have hb3 : Below w0.heap.size w2 w3 := ((Below.refl _ _).alloc hsz2 _).grown HR3.out (by simp; omega) fun q hq => (HO2.out.lt q hq).1
        refine ⟨k + 1, _, _, _, xs ++ [(v : Int)], by omega, by go_num, rfl, tup_snoc HT.out hv, ?_, HS2.out.under (B := w0.heap.size) ?_ hb3, HW2.out.trans (hb3.mono (by omega)), by have := hb3.size; omega⟩
        · rw [ownRow_snoc]; exact HG3.out
        · have := HS.out.old
          rwa [hz] at this ⊢
      case measure => simp [intOf]; omega
    · obtain rfl : k = r := by omega
      have HE : Hid (OwnRow wr w0.heap.size (.slice a' n' c') xs) := by
        show World.ownsRow _ _ _ _ _ _ _
        rw [show xs.length = k by have := ht.1; omega]
        exact hown
      have HT := Lib.hid ht
      have HW := Lib.hid hbel
      clear hown hbel ht hs
      go_wp2
      go_ret
      exact ⟨_, _, _, xs, rfl, HT.out, HE.out.rowAt, HW.out⟩

theorem p6Places (a : Option Addr) (n c : Nat) (bs : List Int) (m r : Nat) (w : World) (h : BytesAt w (.slice a n c) bs) (h2 : 2 ≤ m) (h200 : m ≤ 200) (hr : r ≤ 1000) :
    Calls Tryd.prog 7 #[.slice a n c, .int .i64 r, .int .i64 m] w fun e w' => ∃ a' n' c' xs, e = .returned (.slice a' n' c') ∧ TupP m r xs ∧ RowAt w' (.slice a' n' c') xs ∧ Below w.heap.size w w' := by
  have HS := Lib.hid h
  clear h
  go_enter Tryd.func7, Tryd.ntmps7
  go_wp2_with fail
  refine (p6Tuple a n c bs m r _ HS.out h2 h200 hr).mono ?_
  rintro e w2 ⟨a', n', c', xs, rfl, ht, hrow, hb⟩
  have HT := Lib.hid ht
  have HR := Lib.hid hrow
  have HB := Lib.hid hb
  clear ht hrow hb
  go_wp2
  go_ret
  exact ⟨_, _, _, xs, rfl, HT.out, HR.out, HB.out⟩

theorem valuesAt (v1 v2 : Value) (xs to : List Int) (w : World) (h1 : RowAt w v1 xs) (h2 : RowAt w v2 to) (hl : xs.length ≤ 4) (hr : ∀ i, i < xs.length → 0 ≤ intN xs i ∧ intN xs i < to.length) :
    Calls Tryd.prog 12 #[v2, v1] w (fun e w' => ∃ a n c, e = .returned (.slice a n c) ∧ RowAt w' (.slice a n c) (mapped to xs) ∧ Below w.heap.size w w') := by
  have H1 := Lib.hid h1
  have H2 := Lib.hid h2
  clear h1 h2
  go_enter Tryd.func12, Tryd.ntmps12
  go_wp2_with fail
  refine (l01At v1 v2 xs to _ H1.out H2.out hl hr).mono ?_
  rintro e w2 ⟨a', n', c', rfl, hrow, hb⟩
  have HR := Lib.hid hrow
  have HB := Lib.hid hb
  clear hrow hb
  go_wp2
  go_ret
  exact ⟨_, _, _, rfl, HR.out, HB.out⟩

theorem rowsS_take (s r : Nat) (S : Nat → Bool) (k : Nat) : ∃ T : Nat → Bool, rowsS s r T (k + 1) = rowsS s r S k ++ [digs s r k] := by
  refine ⟨fun n => if n = k then true else S n, ?_⟩
  unfold rowsS
  rw [memb_succ, memb_congr (T := S) fun j hj => by simp [show j ≠ k by omega]]
  simp
theorem rowsS_leave (s r : Nat) (S : Nat → Bool) (k : Nat) : ∃ T : Nat → Bool, rowsS s r T (k + 1) = rowsS s r S k := by
  refine ⟨fun n => if n = k then false else S n, ?_⟩
  unfold rowsS
  rw [memb_succ, memb_congr (T := S) fun j hj => by simp [show j ≠ k by omega]]
  simp
theorem digitsN {s r k : Nat} {row : List Int} (hrow : digs s r k = row) (h1 : 1 ≤ s) (h2 : s ≤ 1000000) (h4 : r ≤ 4) (hnum : k ≤ 1000000000000) (w : World) :
    Calls Tryd.prog 43 #[.int .i64 s, .int .i64 r, .int .i64 k] w fun e w' => ∃ a c, e = .returned (.slice a row.length c) ∧ OwnRow w' w.heap.size (.slice a row.length c) row ∧ Below w.heap.size w w' := by
  subst hrow
  rw [digs_len]
  exact l01Digits s r k h1 h2 h4 hnum w
set_option linter.unusedSimpArgs false in
set_option maxHeartbeats 1600000 in
set_option maxRecDepth 100000 in
theorem l01Drawn (s r : Nat) (h1 : 1 ≤ s) (h2 : s ≤ 4) (h4 : r ≤ 4) (p : Nat) (a : Option Addr) (n c : Nat) (bs : List Int) (j : Nat) (w : World) (h : SrcAt w p a n c bs j) (hj : j ≤ 1000) :
    Calls Tryd.prog 22 #[.pointer (some ⟨p, 0, none⟩), .int .i64 s, .int .i64 r] w fun e w' => ∃ a' n' c' S, e = .returned (.agg #[.int .i64 r, .slice a' n' c']) ∧ OwnGrid w' w.heap.size w'.heap.size (.slice a' n' c') (rowsS s r S (s ^ r)) ∧ Only (fun q => q = p) w w' := by
  obtain ⟨i0, hi0, hz0, hz1, hz2⟩ := info_parts info_rowD
  have hlim := (pow_le4 h1 h2 r h4).1
  obtain ⟨N, hN⟩ : ∃ N, s ^ r = N := ⟨_, rfl⟩
  have HN := Lib.hid hN
  rw [hN] at hlim ⊢
  have hplt := h.lt
  have HOLD := Lib.hid h.old
  have HS0 := Lib.hid (h.below (((Below.refl w.heap.size w).alloc (Nat.le_refl _) (.cells #[.int .i64 0, .slice none 0 0] 27)).alloc (by simp) (.cells #[.int .i64 r, .slice none 0 0] 27)))
  have HR0 := Lib.hid ((RelBox.new w (.int .i64 0) (.slice none 0 0)).below ((Below.refl _ _).alloc (Nat.le_refl _) (.cells #[.int .i64 r, .slice none 0 0] 27)))
  have hR1 := RelBox.new (w.alloc (.cells #[.int .i64 0, .slice none 0 0] 27)) (.int .i64 r) (.slice none 0 0)
  rw [World.size_alloc] at hR1
  have HG0 := Lib.hid (GrowAt.start (w0 := w.heap.size) (B := w.heap.size + 2) hR1 (by omega) (by simp) (by omega))
  have HO0 : Hid (Only (fun q => q = p) w ((w.alloc (.cells #[.int .i64 0, .slice none 0 0] 27)).alloc (.cells #[.int .i64 r, .slice none 0 0] 27))) := Lib.hid ((Only.refl _ w).thenBelow (((Below.refl w.heap.size w).alloc (Nat.le_refl _) _).alloc (by simp) _) (Nat.le_refl _))
  clear h hN hR1
  go_enter Tryd.func22, Tryd.ntmps22
  go_wp2_with fail
  refine (srcPick p a n c bs j 5 _ HS0.out (by omega) (by omega) (by omega)).mono ?_
  rintro e w2 ⟨often, rfl, hoft, hs2, ho2⟩
  have HS2 := Lib.hid hs2
  have HG2 := Lib.hid (HG0.out.only ho2 (by omega))
  have HR2 := Lib.hid (HR0.out.same (ho2.block w.heap.size HR0.out.lt (by omega)))
  have HO2 := Lib.hid (HO0.out.trans ho2)
  clear hs2 ho2 HS0 HG0 HR0 HO0
  go_wp2_with fail
  refine (powN HN.out h1 h2 h4 _).mono ?_
  rintro e w' ⟨rfl, rfl⟩
  go_wp2
  go_loopw [10] (fun i wr => ∃ (k t : Nat) (a' : Option Addr) (n' c' : Nat) (S : Nat → Bool), k ≤ N ∧ i = .int .i64 k ∧ t ≤ 1001 + 2 * k ∧ GrowAt w.heap.size (w.heap.size + 2) (w.heap.size + 1) r (rowsS s r S k) a' n' c' wr ∧ SrcAt wr p a n c bs t ∧ RelBox wr w.heap.size (.int .i64 0) (.slice none 0 0) ∧ Only (fun q => q = p) w wr) (fun i _ => N - (intOf i).toNat)
  case atStart => exact ⟨0, j + 1, none, 0, 0, fun _ => false, Nat.zero_le _, rfl, by omega, HG2.out, HS2.out, HR2.out, HO2.out⟩
  case round =>
    clear HG2 HS2 HR2 HO2
    obtain ⟨k, t, a', n', c', S, hk, rfl, ht, hg, hs, hr, ho⟩ := hrel
    by_cases hlt : k < N
    · have hlt' : (k : Int) < (N : Int) := by omega
      have HG := Lib.hid hg
      have HSS := Lib.hid hs
      have HRR := Lib.hid hr
      have HOO := Lib.hid ho
      clear hg hs hr ho
      go_wp2_with fail
      refine (srcPick p a n c bs t 5 _ HSS.out (by omega) (by omega) (by omega)).mono ?_
      rintro e w3 ⟨v, rfl, hv, hs3, ho3⟩
      have HS3 := Lib.hid hs3
      have HG3 := Lib.hid (HG.out.only ho3 (by omega))
      have HR3 := Lib.hid (HRR.out.same (ho3.block w.heap.size HRR.out.lt (by omega)))
      have HO3 := Lib.hid (HOO.out.trans ho3)
      clear hs3 ho3 HSS HG HRR HOO
      by_cases hvo : v ≤ often
      · have hvoI : (v : Int) ≤ (often : Int) := by omega
        have hml : (rowsS s r S k).length ≤ 256 := by rw [rowsS_len]; exact Nat.le_trans (List.length_filter_le _ _) (by simp; omega)
        obtain ⟨T, hT⟩ := rowsS_take s r S k
        have HM := Lib.hid hT
        clear hT
        generalize hrow : digs s r k = row at *
        have HROW := Lib.hid hrow
        generalize rowsS s r S k = M at *
        clear hrow
        obtain rfl := HG3.out.len
        have hce := HG3.out.box.c1
        go_wp2
        refine wp_region_noPanic ?_
        refine wp_region_late (S := (fun w' => w'.cell? ⟨w.heap.size + 1, 1, none⟩ = some (.slice a' M.length c') ∧ Below w3.heap.size w3 w')) [7, 9] (by kernel_rfl) ?_ (fun hHeld => ?_)
        · exact ⟨hce, (QW.refl w3).drew.below _⟩
        refine wpAnyL_free (i := 0) (v := ?_) (some 31) rfl rfl (by kernel_rfl) (by kernel_rfl) (by kernel_rfl) (by decide) (fun _ _ _ h => h) (Or.inl ⟨by rfl, ?_⟩) (fun h0 => by assumption) ?_
        rotate_left
        · intro wS
          go_simp
          try with_reducible rfl
        try simp only [Act.put, List.setIfInBounds_toArray, List.set_cons_zero, List.set_cons_succ]
        refine wpAnyL_take (i := 1) (v := ?_) (some 32) rfl rfl (by kernel_rfl) (by kernel_rfl) (by kernel_rfl) (by kernel_rfl) (by kernel_rfl) (fun _ _ _ h => h) (Or.inl ⟨by rfl, ?_⟩) (by assumption) ?_
        rotate_left
        · intro wS hSw
          try dsimp only at hSw
          go_simp
          try with_reducible rfl
        try simp only [Act.put, List.setIfInBounds_toArray, List.set_cons_zero, List.set_cons_succ]
        refine wpAnyL_free (i := 2) (v := ?_) (some 33) rfl rfl (by kernel_rfl) (by kernel_rfl) (by kernel_rfl) (by decide) (fun _ _ _ h => h) (Or.inl ⟨by rfl, ?_⟩) (fun h0 => by assumption) ?_
        rotate_left
        · intro wS
          go_simp
          try with_reducible rfl
        try simp only [Act.put, List.setIfInBounds_toArray, List.set_cons_zero, List.set_cons_succ]
        refine wpAnyL_free (i := 3) (v := ?_) (some 34) rfl rfl (by kernel_rfl) (by kernel_rfl) (by kernel_rfl) (by decide) (fun _ _ _ h => h) (Or.inl ⟨by rfl, ?_⟩) (fun h0 => by assumption) ?_
        rotate_left
        · intro wS
          go_simp
          try with_reducible rfl
        try simp only [Act.put, List.setIfInBounds_toArray, List.set_cons_zero, List.set_cons_succ]
        refine wpAnyL_free (i := 4) (v := ?_) (some 35) rfl rfl (by kernel_rfl) (by kernel_rfl) (by kernel_rfl) (by decide) (fun _ _ _ h => h) (Or.inl ⟨by rfl, ?_⟩) (fun h0 => by assumption) ?_
        rotate_left
        · intro wS
          go_simp
          try with_reducible rfl
        try simp only [Act.put, List.setIfInBounds_toArray, List.set_cons_zero, List.set_cons_succ]
        refine wpAnyL_ready (rs := [5]) (by kernel_rfl) (by simp) ?_
        refine AllReadyL.cons rfl (fun K hK => ?_) AllReadyL.nil
        go_simp; go_at_call 43; refine (digitsN HROW.out h1 (by omega) h4 (by omega) _).mono ?_; rintro e w6 ⟨a3, c3, rfl, ho6, hb6⟩
        have HO6 := Lib.hid (OwnRow.mono (B' := w3.heap.size) ho6 (by simp))
        have HB6 : Hid (Below w3.heap.size w3 w6) := Lib.hid (((QW.refl w3).drew.below _).trans hb6)
        clear ho6
        refine hK.out _ _ ?_ (fun hHeld => ?_)
        · exact ⟨below_cell hb6 hHeld.1, HB6.out⟩
        clear hK K
        try simp only [Act.put, List.setIfInBounds_toArray, List.set_cons_zero, List.set_cons_succ]
        refine wpAnyL_ready (rs := [6]) (by kernel_rfl) (by simp) ?_
        refine AllReadyL.cons rfl (fun K hK => ?_) AllReadyL.nil
        go_simp
        refine hK.out _ _ ?_ (fun hHeld => ?_)
        · exact ⟨below_cell ((Below.refl _ _).alloc (Nat.le_refl _) _) hHeld.1, HB6.out.alloc HB6.out.size _⟩
        clear hK K
        try simp only [Act.put, List.setIfInBounds_toArray, List.set_cons_zero, List.set_cons_succ]
        refine wpAnyL_ready (rs := [7]) (by kernel_rfl) (by simp) ?_
        refine AllReadyL.last rfl (by kernel_rfl) (fun K hK => ?_) AllReadyL.nil
        obtain ⟨V2, hV2⟩ := HG3.out.own
        have HV2 := Lib.hid hV2
        clear hV2
        refine step_append_lies _ (by rfl) _ _ 25 (by rfl) (w.heap.size + 2) 29 i0 (.slice none 0 0) 1 24 Tryd.underlying25 hi0 hz0 hz1 hz2 (by rfl) (by decide) (.slice a' M.length c') M.length _ (by rfl) ((ownsRow_below HV2.out.outer HB6.out).alloc _) _ 1 1 [.slice a3 row.length c3] (by rfl) (by rfl) (cell_one_new _ _ _) (by simp [Value.oneCell']) (by omega) (by unfold maxLen; omega) (by omega) (by have := HB6.out.size; have := HG3.out.le; simp; omega) _ rfl ?_; intro g5 cap5 w5 hown5 hgrow5 hat5 hlt5
        have hgm := HG3.out.more HV2.out HB6.out HO6.out hown5 hgrow5
        have HGM := Lib.hid hgm
        have hb5 := ((HG3.out.box.below HB6.out).alloc (.cells #[.slice a3 row.length c3] 29)).grown hgrow5 (HV2.out.far _ HG3.out.lt)
        have ce5 := hb5.c1
        have fe5 := hb5.free 1
        clear hgm hown5 hgrow5 hb5 hat5 hlt5
        refine hK.out _ _ ?_
        clear hK K
        try simp only [Act.put, List.setIfInBounds_toArray, List.set_cons_zero, List.set_cons_succ]
        refine wpAnyL_free (i := 8) (v := ?_) (some 39) rfl rfl (by kernel_rfl) (by kernel_rfl) (by kernel_rfl) (by decide) (fun _ _ _ h => h) (Or.inl ⟨by rfl, ?_⟩) (fun h0 => absurd h0 (by decide)) ?_
        rotate_left
        · intro wS
          go_simp
          try with_reducible rfl
        try simp only [Act.put, List.setIfInBounds_toArray, List.set_cons_zero, List.set_cons_succ]
        refine wpAnyL_ready (rs := [9]) (by kernel_rfl) (by simp) ?_
        refine AllReadyL.last rfl (by kernel_rfl) (fun K hK => ?_) AllReadyL.nil
        go_simp
        refine hK.out _ _ ?_
        clear hK K
        try simp only [Act.put, List.setIfInBounds_toArray, List.set_cons_zero, List.set_cons_succ]
        refine wpAnyL_done (by kernel_rfl) ?_ _
        refine NoPanic.normal ?_
        clear hHeld ce5 fe5
        go_wp2
        go_roundw
        case rel =>
          exact ⟨k + 1, t + 1, _, _, _, T, by omega, by go_num, by omega, by rw [HM.out]; exact HGM.out.1, HS3.out.under (HOLD.out) HGM.out.2.1, HR3.out.same (HGM.out.2.2 _ (by omega) (by omega)), HO3.out.thenBelow HGM.out.2.1 (Nat.le_refl _)⟩
        case measure => simp [intOf]; omega
      · have hvoI : ¬ ((v : Int) ≤ (often : Int)) := by omega
        go_wp2_with fail
        refine (srcOne p a n c bs (t + 1) 8 _ HS3.out (by omega) (by omega) (by omega)).mono ?_
        rintro e w4 ⟨b, rfl, hs4, ho4⟩
        have HS4 := Lib.hid hs4
        have HG4 := Lib.hid (HG3.out.only ho4 (by omega))
        have HR4 := Lib.hid (HR3.out.same (ho4.block w.heap.size HR3.out.lt (by omega)))
        have HO4 := Lib.hid (HO3.out.trans ho4)
        clear hs4 ho4 HS3 HG3 HR3 HO3
        cases b
        · obtain ⟨T, hT⟩ := rowsS_leave s r S k
          have HM := Lib.hid hT
          clear hT
          go_wp2
          go_roundw
          case rel => exact ⟨k + 1, t + 1 + 1, _, _, _, T, by omega, by go_num, by omega, by rw [HM.out]; exact HG4.out, HS4.out, HR4.out, HO4.out⟩
          case measure => simp [intOf]; omega
        · skip
          have hml : (rowsS s r S k).length ≤ 256 := by rw [rowsS_len]; exact Nat.le_trans (List.length_filter_le _ _) (by simp; omega)
          obtain ⟨T, hT⟩ := rowsS_take s r S k
          have HM := Lib.hid hT
          clear hT
          generalize hrow : digs s r k = row at *
          have HROW := Lib.hid hrow
          generalize rowsS s r S k = M at *
          clear hrow
          obtain rfl := HG4.out.len
          have hce := HG4.out.box.c1
          go_wp2
          refine wp_region_noPanic ?_
          refine wp_region_late (S := (fun w' => w'.cell? ⟨w.heap.size + 1, 1, none⟩ = some (.slice a' M.length c') ∧ Below w4.heap.size w4 w')) [7, 9] (by kernel_rfl) ?_ (fun hHeld => ?_)
          · exact ⟨hce, (QW.refl w4).drew.below _⟩
          refine wpAnyL_free (i := 0) (v := ?_) (some 31) rfl rfl (by kernel_rfl) (by kernel_rfl) (by kernel_rfl) (by decide) (fun _ _ _ h => h) (Or.inl ⟨by rfl, ?_⟩) (fun h0 => by assumption) ?_
          rotate_left
          · intro wS
            go_simp
            try with_reducible rfl
          try simp only [Act.put, List.setIfInBounds_toArray, List.set_cons_zero, List.set_cons_succ]
          refine wpAnyL_take (i := 1) (v := ?_) (some 32) rfl rfl (by kernel_rfl) (by kernel_rfl) (by kernel_rfl) (by kernel_rfl) (by kernel_rfl) (fun _ _ _ h => h) (Or.inl ⟨by rfl, ?_⟩) (by assumption) ?_
          rotate_left
          · intro wS hSw
            try dsimp only at hSw
            go_simp
            try with_reducible rfl
          try simp only [Act.put, List.setIfInBounds_toArray, List.set_cons_zero, List.set_cons_succ]
          refine wpAnyL_free (i := 2) (v := ?_) (some 33) rfl rfl (by kernel_rfl) (by kernel_rfl) (by kernel_rfl) (by decide) (fun _ _ _ h => h) (Or.inl ⟨by rfl, ?_⟩) (fun h0 => by assumption) ?_
          rotate_left
          · intro wS
            go_simp
            try with_reducible rfl
          try simp only [Act.put, List.setIfInBounds_toArray, List.set_cons_zero, List.set_cons_succ]
          refine wpAnyL_free (i := 3) (v := ?_) (some 34) rfl rfl (by kernel_rfl) (by kernel_rfl) (by kernel_rfl) (by decide) (fun _ _ _ h => h) (Or.inl ⟨by rfl, ?_⟩) (fun h0 => by assumption) ?_
          rotate_left
          · intro wS
            go_simp
            try with_reducible rfl
          try simp only [Act.put, List.setIfInBounds_toArray, List.set_cons_zero, List.set_cons_succ]
          refine wpAnyL_free (i := 4) (v := ?_) (some 35) rfl rfl (by kernel_rfl) (by kernel_rfl) (by kernel_rfl) (by decide) (fun _ _ _ h => h) (Or.inl ⟨by rfl, ?_⟩) (fun h0 => by assumption) ?_
          rotate_left
          · intro wS
            go_simp
            try with_reducible rfl
          try simp only [Act.put, List.setIfInBounds_toArray, List.set_cons_zero, List.set_cons_succ]
          refine wpAnyL_ready (rs := [5]) (by kernel_rfl) (by simp) ?_
          refine AllReadyL.cons rfl (fun K hK => ?_) AllReadyL.nil
          go_simp; go_at_call 43; refine (digitsN HROW.out h1 (by omega) h4 (by omega) _).mono ?_; rintro e w6 ⟨a3, c3, rfl, ho6, hb6⟩
          have HO6 := Lib.hid (OwnRow.mono (B' := w4.heap.size) ho6 (by simp))
          have HB6 : Hid (Below w4.heap.size w4 w6) := Lib.hid (((QW.refl w4).drew.below _).trans hb6)
          clear ho6
          refine hK.out _ _ ?_ (fun hHeld => ?_)
          · exact ⟨below_cell hb6 hHeld.1, HB6.out⟩
          clear hK K
          try simp only [Act.put, List.setIfInBounds_toArray, List.set_cons_zero, List.set_cons_succ]
          refine wpAnyL_ready (rs := [6]) (by kernel_rfl) (by simp) ?_
          refine AllReadyL.cons rfl (fun K hK => ?_) AllReadyL.nil
          go_simp
          refine hK.out _ _ ?_ (fun hHeld => ?_)
          · exact ⟨below_cell ((Below.refl _ _).alloc (Nat.le_refl _) _) hHeld.1, HB6.out.alloc HB6.out.size _⟩
          clear hK K
          try simp only [Act.put, List.setIfInBounds_toArray, List.set_cons_zero, List.set_cons_succ]
          refine wpAnyL_ready (rs := [7]) (by kernel_rfl) (by simp) ?_
          refine AllReadyL.last rfl (by kernel_rfl) (fun K hK => ?_) AllReadyL.nil
          obtain ⟨V2, hV2⟩ := HG4.out.own
          have HV2 := Lib.hid hV2
          clear hV2
          refine step_append_lies _ (by rfl) _ _ 25 (by rfl) (w.heap.size + 2) 29 i0 (.slice none 0 0) 1 24 Tryd.underlying25 hi0 hz0 hz1 hz2 (by rfl) (by decide) (.slice a' M.length c') M.length _ (by rfl) ((ownsRow_below HV2.out.outer HB6.out).alloc _) _ 1 1 [.slice a3 row.length c3] (by rfl) (by rfl) (cell_one_new _ _ _) (by simp [Value.oneCell']) (by omega) (by unfold maxLen; omega) (by omega) (by have := HB6.out.size; have := HG4.out.le; simp; omega) _ rfl ?_; intro g5 cap5 w5 hown5 hgrow5 hat5 hlt5
          have hgm := HG4.out.more HV2.out HB6.out HO6.out hown5 hgrow5
          have HGM := Lib.hid hgm
          have hb5 := ((HG4.out.box.below HB6.out).alloc (.cells #[.slice a3 row.length c3] 29)).grown hgrow5 (HV2.out.far _ HG4.out.lt)
          have ce5 := hb5.c1
          have fe5 := hb5.free 1
          clear hgm hown5 hgrow5 hb5 hat5 hlt5
          refine hK.out _ _ ?_
          clear hK K
          try simp only [Act.put, List.setIfInBounds_toArray, List.set_cons_zero, List.set_cons_succ]
          refine wpAnyL_free (i := 8) (v := ?_) (some 39) rfl rfl (by kernel_rfl) (by kernel_rfl) (by kernel_rfl) (by decide) (fun _ _ _ h => h) (Or.inl ⟨by rfl, ?_⟩) (fun h0 => absurd h0 (by decide)) ?_
          rotate_left
          · intro wS
            go_simp
            try with_reducible rfl
          try simp only [Act.put, List.setIfInBounds_toArray, List.set_cons_zero, List.set_cons_succ]
          refine wpAnyL_ready (rs := [9]) (by kernel_rfl) (by simp) ?_
          refine AllReadyL.last rfl (by kernel_rfl) (fun K hK => ?_) AllReadyL.nil
          go_simp
          refine hK.out _ _ ?_
          clear hK K
          try simp only [Act.put, List.setIfInBounds_toArray, List.set_cons_zero, List.set_cons_succ]
          refine wpAnyL_done (by kernel_rfl) ?_ _
          refine NoPanic.normal ?_
          clear hHeld ce5 fe5
          go_wp2
          go_roundw
          case rel =>
            exact ⟨k + 1, t + 1 + 1, _, _, _, T, by omega, by go_num, by omega, by rw [HM.out]; exact HGM.out.1, HS4.out.under (HOLD.out) HGM.out.2.1, HR4.out.same (HGM.out.2.2 _ (by omega) (by omega)), HO4.out.thenBelow HGM.out.2.1 (Nat.le_refl _)⟩
          case measure => simp [intOf]; omega
    · obtain rfl : k = N := by omega
      obtain rfl := hg.len
      have c0 := hg.box.c0
      have c1' := hg.box.c1
      have d0 := hr.c0
      have d1 := hr.c1
      have f0 := hr.free 0
      have f1 := hr.free 1
      have HG := Lib.hid hg
      have HOO := Lib.hid ho
      clear hg hs hr ho
      generalize hM : rowsS s r S k = M at *
      go_wp2
      refine bodyPost_ret (v := .agg #[.int .i64 r, .slice a' M.length c']) (by simp [results, Tryd.results22, go_sem, d0, d1]) rfl ⟨a', _, c', S, rfl, ?_, ?_⟩
      · rw [hM]
        exact (((HG.out.grid.stored (by show w.heap.size < w.heap.size + 2; omega) _).stored (by show w.heap.size < w.heap.size + 2; omega) _).mono (by omega)).full
      · exact HOO.out.thenBelow (((Below.refl w.heap.size wr).setCell (by show w.heap.size ≤ w.heap.size; omega) _).setCell (by show w.heap.size ≤ w.heap.size; omega) _) (Nat.le_refl _)

set_option maxHeartbeats 800000 in
theorem p6Rel (a : Option Addr) (n c : Nat) (bs : List Int) (s r : Nat) (w : World) (h : BytesAt w (.slice a n c) bs) (h1 : 1 ≤ s) (h2 : s ≤ 4) (h3 : 1 ≤ r) (h4 : r ≤ 4) :
    Calls Tryd.prog 6 #[.slice a n c, .int .i64 s, .int .i64 r] w fun e w' => ∃ a' n' c' R, e = .returned (.agg #[.int .i64 r, .slice a' n' c']) ∧ RelOk s r R ∧ OwnGrid w' w.heap.size w'.heap.size (.slice a' n' c') R ∧ Below w.heap.size w w' := by
  have HS := Lib.hid (SrcAt.start (h.below ((Below.refl w.heap.size w).alloc (Nat.le_refl _) (.cells #[.int .i64 0, .slice none 0 0] 27))))
  have HR0 := Lib.hid ((RelBox.new w (.int .i64 0) (.slice none 0 0)).below ((Below.refl _ _).alloc (Nat.le_refl _) (.cells #[.slice a n c, .int .i64 0, .int .u64 0] 66)))
  have HB0 := Lib.hid (((Below.refl w.heap.size w).alloc (Nat.le_refl _) (.cells #[.int .i64 0, .slice none 0 0] 27)).alloc (by simp) (.cells #[.slice a n c, .int .i64 0, .int .u64 0] 66))
  have hsz : (w.alloc (.cells #[.int .i64 0, .slice none 0 0] 27)).heap.size = w.heap.size + 1 := by simp
  rw [hsz] at HS
  clear h
  go_enter Tryd.func6, Tryd.ntmps6
  go_wp2_with fail
  refine (l00From _ _ _ _).mono ?_
  rintro e w1 ⟨rfl, rfl⟩
  go_wp2_with fail
  refine (l01Drawn s r h1 h2 h4 (w.heap.size + 1) a n c bs 0 _ HS.out (by omega)).mono ?_
  rintro e w4 ⟨a', n', c', S, rfl, hg, ho⟩
  have HG := Lib.hid (hg.mono (B' := w.heap.size + 2) (by simp))
  have hr4 := HR0.out.same (ho.block w.heap.size HR0.out.lt (by omega))
  have d0 := hr4.c0
  have d1 := hr4.c1
  have f0 := hr4.free 0
  have f1 := hr4.free 1
  have HW : Hid (Below w.heap.size w w4) := Lib.hid (HB0.out.trans (ho.below (by simp; omega) fun q hq => by omega))
  clear hg ho hr4
  go_wp2
  have hrows : rowsS s r S (s ^ r) = rowsS s r (cutS (s ^ r) S) 256 := (cut_rows h1 h2 h3 h4 S).symm
  refine bodyPost_ret (v := .agg #[.int .i64 r, .slice a' n' c']) (by simp [results, Tryd.results6, go_sem, d0, d1]) rfl ⟨a', _, c', _, rfl, rowsS_ok (S := cutS (s ^ r) S) h1 h2 h3 h4 (fun n hn => by simp only [cutS, Bool.and_eq_true, decide_eq_true_eq] at hn; exact hn.1), ?_, ?_⟩
  · rw [← hrows]
    exact (((HG.out.stored (by show w.heap.size < w.heap.size + 2; omega) _).stored (by show w.heap.size < w.heap.size + 2; omega) _).mono (by omega)).full
  · exact (HW.out.setCell (by show w.heap.size ≤ w.heap.size; omega) _).setCell (by show w.heap.size ≤ w.heap.size; omega) _

end Go.Proofs.YtjkbffoaenhhgaaDoor
