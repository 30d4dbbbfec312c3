/-
  ReplaceRel of the model.
-/
import Derived.Test.YtnbgpeoceejolabReplF
import Derived.Test.YtnbgpeoceejolabConjS
namespace Go.Proofs.Ytnbgpeoceejolab
open Go.RowKit

theorem rplN_le (fs : List (Int × List Int)) (rel : Int) (k : Nat) : rplN fs rel k ≤ k := by
  induction k with
  | zero => exact Nat.le_refl _
  | succ k ih => rw [rplN]; split <;> omega
theorem rplY_le {v m : Nat} {fs : List (Int × List Int)} {rel : Int} {k : Nat} (hv : v ≤ 8) (hm : m ≤ 8) (hk : k ≤ 16) : rplY v m fs rel k ≤ 200 := by
  have h1 := rplN_le fs rel k
  have h2 := Nat.mul_le_mul hm (Nat.le_trans h1 hk)
  unfold rplY
  omega
theorem rplL_len {v m : Nat} {fs : List (Int × List Int)} {rel : Int} {gs : List (Int × List Int)} (hg : gs.length ≤ 16) (k : Nat) : (rplL v m fs rel gs k).length ≤ 17 * k := by
  induction k with
  | zero => simp [rplL]
  | succ k ih =>
    by_cases hr : arO fs k = rel
    · rw [rplL_yes hr, List.length_append, movedL_len]; omega
    · rw [rplL_no hr, List.length_append]; simp; omega
theorem rplL_le {v m : Nat} {fs : List (Int × List Int)} {rel : Int} {gs : List (Int × List Int)} {k : Nat} (hg : gs.length ≤ 16) (hk : k ≤ 16) : (rplL v m fs rel gs k).length ≤ 500 := by
  have := rplL_len (v := v) (m := m) (fs := fs) (rel := rel) hg k
  omega

set_option linter.unusedSimpArgs false in
set_option maxHeartbeats 4000000 in
set_option maxRecDepth 100000 in
theorem specReplaceRel (sz : Int) (a1 : Option Addr) (n1 c1 : Nat) (rs : List (Int × List (List Int))) (fr va : Int) (a2 : Option Addr) (n2 c2 : Nat) (fs : List (Int × List Int)) (rel : Int) (fr2 vg : Int) (a3 : Option Addr) (n3 c3 : Nat) (gs : List (Int × List Int)) (x y : Int) (zs : List (Int × List Int)) (cd : Int) (w : World) (h1 : RelsAt w (.slice a1 n1 c1) rs) (h2 : OpsAt w (.slice a2 n2 c2) fs) (h3 : OpsAt w (.slice a3 n3 c3) gs) (hi : ReplaceRelIs sz rs fr va fs rel fr2 vg gs x y zs cd) :
    Calls Try.prog 22 #[.agg #[.int .i64 sz, .slice a1 n1 c1], .agg #[.int .i64 fr, .int .i64 va, .slice a2 n2 c2], .int .i64 rel, .agg #[.int .i64 fr2, .int .i64 vg, .slice a3 n3 c3]] w (MadeF w x y zs cd) := by
  obtain rfl : n1 = rs.length := by obtain ⟨_, _, hv, _⟩ := h1; simp only [Value.slice.injEq] at hv; exact hv.2.1
  obtain rfl : n2 = fs.length := by obtain ⟨_, _, hv, _⟩ := h2; simp only [Value.slice.injEq] at hv; exact hv.2.1
  have hrnl : rs.length ≤ 9223372036854775807 := by obtain ⟨_, _, _, hn, _⟩ := h1; exact hn
  have HR0 : Hid (Box 32 ((((w.alloc (.cells #[.int .i64 sz, .slice a1 rs.length c1] 37)).alloc (.cells #[.int .i64 fr, .int .i64 va, .slice a2 fs.length c2] 32)).alloc (.cells #[.int .i64 fr2, .int .i64 vg, .slice a3 n3 c3] 32)).alloc (.cells #[.int .i64 0, .int .i64 0, .slice none 0 0] 32)) (w.heap.size + 3) #[.int .i64 0, .int .i64 0, .slice none 0 0]) := Lib.hid (by
    have h := Box.new 32 (((w.alloc (.cells #[.int .i64 sz, .slice a1 rs.length c1] 37)).alloc (.cells #[.int .i64 fr, .int .i64 va, .slice a2 fs.length c2] 32)).alloc (.cells #[.int .i64 fr2, .int .i64 vg, .slice a3 n3 c3] 32)) #[.int .i64 0, .int .i64 0, .slice none 0 0]
    simp only [World.size_alloc] at h
    exact h)
  have HTP : ∀ wx, Below ((((w.alloc (.cells #[.int .i64 sz, .slice a1 rs.length c1] 37)).alloc (.cells #[.int .i64 fr, .int .i64 va, .slice a2 fs.length c2] 32)).alloc (.cells #[.int .i64 fr2, .int .i64 vg, .slice a3 n3 c3] 32)).alloc (.cells #[.int .i64 0, .int .i64 0, .slice none 0 0] 32)).heap.size ((((w.alloc (.cells #[.int .i64 sz, .slice a1 rs.length c1] 37)).alloc (.cells #[.int .i64 fr, .int .i64 va, .slice a2 fs.length c2] 32)).alloc (.cells #[.int .i64 fr2, .int .i64 vg, .slice a3 n3 c3] 32)).alloc (.cells #[.int .i64 0, .int .i64 0, .slice none 0 0] 32)) wx → TplAt wx w.heap.size 0 sz rs := fun wx hb => ((((TplAt.new w sz a1 rs.length c1 rs 37 h1).below ((Below.refl _ _).alloc (Nat.le_refl _) _)).below ((Below.refl _ _).alloc (Nat.le_refl _) _)).below ((Below.refl _ _).alloc (Nat.le_refl _) _)).below hb
  have HFP : ∀ wx, Below ((((w.alloc (.cells #[.int .i64 sz, .slice a1 rs.length c1] 37)).alloc (.cells #[.int .i64 fr, .int .i64 va, .slice a2 fs.length c2] 32)).alloc (.cells #[.int .i64 fr2, .int .i64 vg, .slice a3 n3 c3] 32)).alloc (.cells #[.int .i64 0, .int .i64 0, .slice none 0 0] 32)).heap.size ((((w.alloc (.cells #[.int .i64 sz, .slice a1 rs.length c1] 37)).alloc (.cells #[.int .i64 fr, .int .i64 va, .slice a2 fs.length c2] 32)).alloc (.cells #[.int .i64 fr2, .int .i64 vg, .slice a3 n3 c3] 32)).alloc (.cells #[.int .i64 0, .int .i64 0, .slice none 0 0] 32)) wx → FormAt wx (w.heap.size + 1) 0 fr va fs := fun wx hb => by
    have h := (((FormAt.new (w.alloc (.cells #[.int .i64 sz, .slice a1 rs.length c1] 37)) fr va a2 fs.length c2 fs 32 (h2.below ((Below.refl _ _).alloc (Nat.le_refl _) _))).below ((Below.refl _ _).alloc (Nat.le_refl _) (.cells #[.int .i64 fr2, .int .i64 vg, .slice a3 n3 c3] 32))).below ((Below.refl _ _).alloc (Nat.le_refl _) (.cells #[.int .i64 0, .int .i64 0, .slice none 0 0] 32))).below hb
    rwa [World.size_alloc] at h
  have HGP : ∀ wx, Below ((((w.alloc (.cells #[.int .i64 sz, .slice a1 rs.length c1] 37)).alloc (.cells #[.int .i64 fr, .int .i64 va, .slice a2 fs.length c2] 32)).alloc (.cells #[.int .i64 fr2, .int .i64 vg, .slice a3 n3 c3] 32)).alloc (.cells #[.int .i64 0, .int .i64 0, .slice none 0 0] 32)).heap.size ((((w.alloc (.cells #[.int .i64 sz, .slice a1 rs.length c1] 37)).alloc (.cells #[.int .i64 fr, .int .i64 va, .slice a2 fs.length c2] 32)).alloc (.cells #[.int .i64 fr2, .int .i64 vg, .slice a3 n3 c3] 32)).alloc (.cells #[.int .i64 0, .int .i64 0, .slice none 0 0] 32)) wx → FormAt wx (w.heap.size + 2) 0 fr2 vg gs := fun wx hb => by
    have h := ((FormAt.new ((w.alloc (.cells #[.int .i64 sz, .slice a1 rs.length c1] 37)).alloc (.cells #[.int .i64 fr, .int .i64 va, .slice a2 fs.length c2] 32)) fr2 vg a3 n3 c3 gs 32 (h3.below (((Below.refl _ _).alloc (Nat.le_refl _) _).alloc (by simp) _))).below ((Below.refl _ _).alloc (Nat.le_refl _) (.cells #[.int .i64 0, .int .i64 0, .slice none 0 0] 32))).below hb
    rwa [World.size_alloc, World.size_alloc] at h
  have K0 := Lib.hid ((((((((Kept.start w).read (lives_rels _ _) h1).read (lives_ops _ _) h2).read (lives_ops _ _) h3).box w.heap.size rfl (.int .i64 sz) (.slice a1 rs.length c1) 37).box3 (w.heap.size + 1) (by simp) (.int .i64 fr) (.int .i64 va) (.slice a2 fs.length c2) 32).box3 (w.heap.size + 2) (by simp) (.int .i64 fr2) (.int .i64 vg) (.slice a3 n3 c3) 32).below ((Below.refl _ _).alloc (Nat.le_refl _) (.cells #[.int .i64 0, .int .i64 0, .slice none 0 0] 32)))
  clear h1 h2 h3
  rcases hi with ⟨hf, hg, hin, har, hi2⟩ | ⟨hf, hg, hin, hne, rfl, rfl, rfl, rfl⟩ | ⟨hf, hg, hin, rfl, rfl, rfl, rfl⟩ | ⟨hno, rfl, rfl, rfl, rfl⟩
  · have HV := Lib.hid (Tells.yes hf)
    have HW := Lib.hid (Tells.yes hg)
    obtain ⟨r, rfl⟩ : ∃ r : Nat, rel = r := ⟨rel.toNat, by omega⟩
    have hrr : r < rs.length := by omega
    have hrrI : (r : Int) < (rs.length : Int) := by omega
    have HIN : Hid (Tells true (InP (r : Int) 0 ((rs.length : Int) - 1))) := Lib.hid (Tells.yes ⟨by omega, by omega⟩)
    rw [Int.toNat_natCast] at har
    obtain ⟨q, rfl⟩ : ∃ q : Nat, fr2 = q := ⟨fr2.toNat, by have := hg.2.1.1.1; omega⟩
    obtain ⟨vn, rfl⟩ : ∃ v : Nat, va = v := ⟨va.toNat, by have := hf.2.1.1.1; have := hf.2.1.2.1.1; omega⟩
    obtain ⟨m, hm⟩ : ∃ m : Nat, (vg - (q : Int)) = m := ⟨(vg - (q : Int)).toNat, by have := hg.2.1.2.1.1; omega⟩
    have HVG : Hid (vg = q + m) := Lib.hid (by omega)
    have hvg8 : vg ≤ 8 := hg.2.1.2.1.2
    have hvg0 : 0 ≤ vg := by omega
    have hq0 : 0 < q := by have := hg.2.1.1.1; omega
    have hq4 : q ≤ 4 := by have := hg.2.1.1.2; omega
    have hm8 : m ≤ 8 := by omega
    have hv8 : vn ≤ 8 := by have := hf.2.1.2.1.2; omega
    have hl1 : fs.length ≤ 16 := hf.2.1.2.2
    have hl2 : gs.length ≤ 16 := hg.2.1.2.2
    have HFT := Lib.hid hf.text.2
    have HFQ : Hid (∀ k, k < fs.length → arO fs k = (r : Int) → (rowO fs k).length = q) := Lib.hid (fun k hk e => by
      have h1 := (hf.2.2 k hk).2.1
      rw [e, arityOf_in hrr, ← har] at h1
      omega)
    have HGL : Hid (∀ k, k < gs.length → (rowO gs k).length ≤ 4) := Lib.hid (fun k hk => by have := (hg.text.2 k hk).2.1.2; omega)
    have HGR : Hid (∀ k, k < gs.length → ∀ i, i < (rowO gs k).length → 0 ≤ intN (rowO gs k) i ∧ intN (rowO gs k) i < vg) := Lib.hid (fun k hk i hi => (hg.text.2 k hk).2.2.2 i hi)
    rw [hm, Int.toNat_natCast, Int.toNat_natCast] at hi2
    have HI2 := Lib.hid hi2
    have hab : ((q : Int) == arN rs r) = true := beq_iff_eq.2 har
    have hab2 : ((q : Int) != arN rs r) = false := by simp [har]
    obtain ⟨i0, hi, hz0, hz1, hz2⟩ := info_parts info_Atom
    obtain ⟨j0, hj0, hy0, hy1, hy2⟩ := info_parts info_int3
    clear hf hg hin hm har hi2
    go_enter Try.func22, Try.ntmps22
    go_wp2_with fail
    refine (l03Ok _ _ _ rs _ _ _ _ fs true _ (HTP _ (Below.refl _ _)) (HFP _ (Below.refl _ _)) HV.out).mono ?_
    rintro e v1 ⟨rfl, hq1⟩
    have HB1 := Lib.hid (show Below _ _ v1 from hq1.bel)
    have K1 := Lib.hid (K0.out.below HB1.out)
    have HR1 := Lib.hid (HR0.out.below HB1.out)
    have hsv1 : w.heap.size + 4 ≤ v1.heap.size := by have := HB1.out.size; simpa using this
    clear hq1
    have cc0 := K1.out.c 0 rfl
    have cc1 := K1.out.c 1 rfl
    have cc2 := K1.out.c 2 rfl
    have cc3 := K1.out.c 3 rfl
    have cc4 := K1.out.c 4 rfl
    have cc5 := K1.out.c 5 rfl
    have cc6 := K1.out.c 6 rfl
    have cc7 := K1.out.c 7 rfl
    go_wp2_with fail
    refine (l03Ok _ _ _ rs _ _ _ _ gs true _ (HTP _ HB1.out) (HGP _ HB1.out) HW.out).mono ?_
    rintro e v2 ⟨rfl, hq2⟩
    have hb2 := (show Below v1.heap.size v1 v2 from hq2.bel)
    have K2 := Lib.hid (K1.out.below hb2)
    have HR2 := Lib.hid (HR1.out.below hb2)
    have hsv2 : w.heap.size + 4 ≤ v2.heap.size := by have := hb2.size; omega
    clear cc0 cc1 cc2 cc3 cc4 cc5 cc6 cc7
    clear hb2 hq2
    have cc0 := K2.out.c 0 rfl
    have cc1 := K2.out.c 1 rfl
    have cc2 := K2.out.c 2 rfl
    have cc3 := K2.out.c 3 rfl
    have cc4 := K2.out.c 4 rfl
    have cc5 := K2.out.c 5 rfl
    have cc6 := K2.out.c 6 rfl
    have cc7 := K2.out.c 7 rfl
    go_wp2_with fail
    refine (l00In _ _ _ true _ HIN.out).mono ?_
    rintro e v3 ⟨rfl, rfl⟩
    obtain ⟨ra, rc, hrv, hrn, hrc⟩ := (K2.out.r 2 rfl : RelsAt v2 (.slice a1 rs.length c1) rs)
    simp only [Value.slice.injEq] at hrv
    obtain ⟨rfl, _, rfl⟩ := hrv
    obtain ⟨b3, off3, ha3, hcell3⟩ := hrc (by omega)
    subst ha3
    obtain ⟨z0, -⟩ := hcell3 r hrr
    clear hrc hcell3
    go_wp2
    go_quiet (fail)
    have K := Lib.hid (K2.out.drewN nq)
    have HR := Lib.hid (HR2.out.below ((QW.refl v2).drewN nq |>.below _))
    have hz : w.heap.size + 4 ≤ (v2.drewN nq).heap.size := hsv2
    clear cc0 cc1 cc2 cc3 cc4 cc5 cc6 cc7 z0
    generalize v2.drewN nq = w1 at K HR hz ⊢
    have cc3 := K.out.c 3 rfl
    have cc4 := K.out.c 4 rfl
    go_wp2
    clear cc3 cc4
    go_loopw [11] (fun i wr => ∃ (k : Nat) (a : Option Addr) (n c : Nat), k ≤ fs.length ∧ i = .int .i64 k ∧ Box 32 wr w1.heap.size #[.int .i64 fr, .int .i64 ((rplY vn m fs (r : Int) k : Nat) : Int), .slice a n c] ∧ OwnOps 83 wr (w1.heap.size + 1) wr.heap.size (.slice a n c) (rplL vn m fs (r : Int) gs k) ∧ Below w1.heap.size w1 wr ∧ w1.heap.size + 1 ≤ wr.heap.size) (fun i _ => fs.length - (intOf i).toNat)
    case atStart => exact ⟨0, none, 0, 0, Nat.zero_le _, rfl, Box.new _ _ _, OwnOps.nil _ _ _ _ (Nat.le_refl _), (Below.refl _ _).alloc (Nat.le_refl _) _, by simp⟩
    case round =>
      obtain ⟨k, a, n, c, hk, rfl, hbx, hol, hbr, hsz⟩ := hrel
      have HBR := Lib.hid hbr
      have KR := Lib.hid (K.out.below hbr)
      have HYK : Hid (rplY vn m fs (r : Int) k ≤ 200) := Lib.hid (rplY_le (by omega) hm8 (Nat.le_trans hk hl1))
      have HLK : Hid ((rplL vn m fs (r : Int) gs k).length ≤ 500) := Lib.hid (rplL_le hl2 (Nat.le_trans hk hl1))
      by_cases hlt : k < fs.length
      · have hlt' : (k : Int) < (fs.length : Int) := by omega
        obtain ⟨fa, fc, hfv, hfn, hfc⟩ := (KR.out.r 1 rfl : OpsAt wr (.slice a2 fs.length c2) fs)
        simp only [Value.slice.injEq] at hfv
        obtain ⟨rfl, _, rfl⟩ := hfv
        obtain ⟨b1, off1, ha1, hcell1⟩ := hfc (by omega)
        subst ha1
        obtain ⟨y0, a4, n4, c4, y1, hr⟩ := hcell1 k hlt
        have hrl : 1 ≤ (rowO fs k).length ∧ (rowO fs k).length ≤ 4 := by
          have h1 := HFT.out k hlt
          have h2 := h1.2.1.1
          have h3 := h1.2.1.2
          omega
        have hr0 : 0 < (rowO fs k).length := by omega
        have hr4 : (rowO fs k).length ≤ 1000 := by omega
        have hn4 : n4 = (rowO fs k).length := by obtain ⟨_, _, hv, _⟩ := hr; simp only [Value.slice.injEq] at hv; exact hv.2.1
        subst hn4
        have xc := KR.out.c 5 rfl
        clear hfc hcell1 hrl
        by_cases hrel2 : arO fs k = (r : Int)
        · have hrb : (arO fs k == (r : Int)) = true := beq_iff_eq.2 hrel2
          have hrb2 : (arO fs k != (r : Int)) = false := by simp [hrel2]
          have HREL := Lib.hid hrel2
          have HRQ : Hid ((rowO fs k).length = q) := Lib.hid (HFQ.out k hlt hrel2)
          have HOK := Lib.hid hol
          have HBXK := Lib.hid hbx
          have HROW := Lib.hid hr
          have HRL1 : Hid (1 ≤ (rowO fs k).length) := Lib.hid hr0
          clear hrel2 hol hbx hr hbr
          obtain ⟨wr0, rfl⟩ : ∃ wr0 : World, wr0 = wr := ⟨_, rfl⟩
          go_wp2_with fail
          refine (l00Own _ _ _ (rowO fs k) _ HROW.out HRL1.out (by omega)).mono ?_
          rintro e w5 ⟨a5, c5, rfl, ho5, hb5⟩
          have HO5 := Lib.hid ho5
          have HON5 := Lib.hid (Only.bel (Only.refl (fun z => z = w1.heap.size) wr0) hb5)
          have HBX5 := Lib.hid (show Box 32 w5 w1.heap.size #[.int .i64 fr, .int .i64 ((rplY vn m fs (r : Int) k + 0 : Nat) : Int), .slice a n c] from HBXK.out.below hb5)
          have t0 := (KR.out.below hb5).c 0 rfl
          clear ho5 hb5 xc y0 y1
          go_wp2
          clear t0
          go_loopw [12, 13] (fun tv v wi => ∃ (j : Nat) (v0 : Int) (a' : Option Addr) (n' c' : Nat), j ≤ m ∧ v0 = ((q + j : Nat) : Int) ∧ v = .int .i64 v0 ∧ tv = .slice a' n' c' ∧ OwnRow wi wr0.heap.size (.slice a' n' c') (sayL (rowO fs k) (rplY vn m fs (r : Int) k) j) ∧ Box 32 wi w1.heap.size #[.int .i64 fr, .int .i64 ((rplY vn m fs (r : Int) k + j : Nat) : Int), .slice a n c] ∧ Only (fun z => z = w1.heap.size) wr0 wi) (fun _ v _ => vg.toNat - (intOf v).toNat)
          case atStart => exact ⟨0, (q : Int), a5, (rowO fs k).length, c5, Nat.zero_le _, by simp, rfl, rfl, by rw [sayL_zero]; exact HO5.out, HBX5.out, HON5.out⟩
          case round =>
            obtain ⟨j, v0, a', n', c', hj, hv0, rfl, rfl, hown, hbxi, honi⟩ := hrel
            obtain ⟨wo, rfl⟩ : ∃ wo : World, wo = wr := ⟨_, rfl⟩
            have HO := Lib.hid hown
            have HBI := Lib.hid hbxi
            have HON := Lib.hid honi
            have HBI1 := Lib.hid (HBR.out.trans (honi.below (by omega) (fun z hz => by show w1.heap.size ≤ z; omega)))
            have KI := Lib.hid (K.out.below HBI1.out)
            have t1 := KI.out.c 1 rfl
            have i1 := HBI.out.c 1 rfl
            have p1 := HBI.out.free 1
            have hv0' : 0 ≤ v0 := by omega
            have hszw : wr0.heap.size ≤ wo.heap.size := honi.size
            clear hown hbxi honi
            by_cases hjm : j < m
            · have hlt2 : v0 < vg := by have := HVG.out; omega
              obtain ⟨z, hz⟩ : ∃ z : Int, z = ((rplY vn m fs (r : Int) k + j : Nat) : Int) := ⟨_, rfl⟩
              have HZ := Lib.hid hz
              rw [← hz] at i1
              have hzb : 0 ≤ z ∧ z ≤ 1000 := by have := HYK.out; omega
              have hw3 : IntKind.i64.wrap (v0 + 1) = v0 + 1 := IntWalk.i64_in _ (by omega)
              have hw4 : IntKind.i64.wrap (z + 1) = z + 1 := IntWalk.i64_in _ (by omega)
              have HV0 := Lib.hid hv0
              have HC1 := Lib.hid (cell_one_new wo (.int .i64 z) 2)
              have hPw : w1.heap.size < wr0.heap.size := by omega
              clear hz hv0
              go_wp2_with (at_builtin; refine wpList_append_own _ rfl _ _ 45 rfl wr0.heap.size 2 j0 (.int .i64 0) 1 8 Try.underlying45 hj0 hy0 hy1 hy2 rfl (by decide) (.slice a' n' c') (sayL (rowO fs k) (rplY vn m fs (r : Int) k) j).length _ rfl ((show World.ownsRow _ _ _ _ _ _ _ from HO.out).alloc _) ⟨wo.heap.size, 0, none⟩ 1 1 [.int .i64 z] rfl rfl HC1.out (by simp [Value.oneCell']) (by rw [sayL_len]; unfold maxLen; omega) (by rw [sayL_len]; omega) (by simp; omega) ?_; intro v' w3 hown' hgrow _; obtain ⟨g', c', rfl⟩ := ownsRow_succ hown'; have HG3 := Lib.hid hown'; have HW3 := Lib.hid ((((Below.refl wo.heap.size wo).alloc (Nat.le_refl _) (.cells #[.int .i64 z] 2)).mono hszw).grown hgrow (by simp; omega) (fun x hx => (HO.out.lt x hx).1)); have HBI3 := Lib.hid (HBI.out.same (HW3.out.block w1.heap.size hPw)); clear i1 p1; have i1 : w3.cell? ⟨w1.heap.size, 1, none⟩ = some (.int .i64 z) := (by rw [HZ.out]; exact HBI3.out.c 1 rfl); have p1 := HBI3.out.free 1; clear hown' hgrow)
              go_roundw
              case rel =>
                refine ⟨j + 1, v0 + 1, _, _, _, by omega, by rw [HV0.out]; omega, rfl, rfl, ?_, ?_, ?_⟩
                · have e : (sayL (rowO fs k) (rplY vn m fs (r : Int) k) (j + 1)).length = (sayL (rowO fs k) (rplY vn m fs (r : Int) k) j).length + 1 := by rw [sayL_len, sayL_len]; omega
                  refine OwnRow.stored (B := wr0.heap.size) ?_ (p := ⟨w1.heap.size, 1, none⟩) hPw _
                  unfold OwnRow
                  rw [e, sayL_succ, List.map_append, ← HZ.out]
                  exact HG3.out
                · have ez : z + 1 = ((rplY vn m fs (r : Int) k + (j + 1) : Nat) : Int) := by rw [HZ.out]; omega
                  rw [← ez]
                  exact HBI3.out.set 1 (.int .i64 (z + 1))
                · exact Only.setCell (Only.bel HON.out HW3.out) rfl _
              case measure => simp [intOf]; omega
            · have hjm2 : m = j := by omega
              have hv1 : ¬ v0 < vg := by have := HVG.out; omega
              have HTO := Lib.hid (OwnRow.rowAt HO.out)
              have hszo : w1.heap.size + 1 ≤ wo.heap.size := by omega
              have HOI := Lib.hid ((HOK.out.same HON.out.size (fun g h1 h2 => HON.out.block g h2 (by show ¬ g = w1.heap.size; omega))).full)
              subst hjm2
              have HGR2 : Hid (∀ k', k' < gs.length → ∀ i, i < (rowO gs k').length → 0 ≤ intN (rowO gs k') i ∧ intN (rowO gs k') i < (((sayL (rowO fs k) (rplY vn m fs (r : Int) k) m)).length : Int)) := Lib.hid (fun k' hk' i hi => by
                have h := HGR.out k' hk' i hi
                have h2 := HVG.out
                rw [sayL_len, HRQ.out]
                omega)
              have i2 := HBI.out.c 2 rfl
              have t2 := KI.out.c 2 rfl
              have HV0 := Lib.hid hv0
              clear hv0 hjm hj i1 p1
              go_wp2
              refine wp_region_noPanic ?_
              refine wp_region_late (S := (fun w' => w'.cell? ⟨w1.heap.size, 2, none⟩ = some (.slice a n c) ∧ w'.cell? ⟨w.heap.size + 2, 2, none⟩ = some (.slice a3 n3 c3) ∧ Below wo.heap.size wo w')) [6, 8] (by kernel_rfl) ?_ (fun hHeld => ?_)
              · exact ⟨i2, t2, (QW.refl _).drew.below _⟩
              refine wpAnyL_free (i := 0) (v := ?_) (some 102) rfl rfl (by kernel_rfl) (by kernel_rfl) (by kernel_rfl) (by decide) (fun _ _ _ h => h) (Or.inl ⟨by rfl, ?_⟩) (fun h0 => by assumption) ?_
              rotate_left
              · intro wS
                go_simp
                try with_reducible rfl
              try simp only [Act.put, List.setIfInBounds_toArray, List.set_cons_zero, List.set_cons_succ]
              refine wpAnyL_take (i := 1) (v := ?_) (some 103) rfl rfl (by kernel_rfl) (by kernel_rfl) (by kernel_rfl) (by kernel_rfl) (by kernel_rfl) (fun _ _ _ h => h) (Or.inl ⟨by rfl, ?_⟩) (by assumption) ?_
              rotate_left
              · intro wS hSw
                try dsimp only at hSw
                go_simp
                try with_reducible rfl
              try simp only [Act.put, List.setIfInBounds_toArray, List.set_cons_zero, List.set_cons_succ]
              refine wpAnyL_free (i := 2) (v := ?_) (some 104) rfl rfl (by kernel_rfl) (by kernel_rfl) (by kernel_rfl) (by decide) (fun _ _ _ h => h) (Or.inl ⟨by rfl, ?_⟩) (fun h0 => by assumption) ?_
              rotate_left
              · intro wS
                go_simp
                try with_reducible rfl
              try simp only [Act.put, List.setIfInBounds_toArray, List.set_cons_zero, List.set_cons_succ]
              refine wpAnyL_take (i := 3) (v := ?_) (some 105) rfl rfl (by kernel_rfl) (by kernel_rfl) (by kernel_rfl) (by kernel_rfl) (by kernel_rfl) (fun _ _ _ h => h) (Or.inl ⟨by rfl, ?_⟩) (by assumption) ?_
              rotate_left
              · intro wS hSw
                try dsimp only at hSw
                go_simp
                try with_reducible rfl
              try simp only [Act.put, List.setIfInBounds_toArray, List.set_cons_zero, List.set_cons_succ]
              refine wpAnyL_free (i := 4) (v := ?_) (some 106) rfl rfl (by kernel_rfl) (by kernel_rfl) (by kernel_rfl) (by decide) (fun _ _ _ h => h) (Or.inl ⟨by rfl, ?_⟩) (fun h0 => by assumption) ?_
              rotate_left
              · intro wS
                go_simp
                try with_reducible rfl
              try simp only [Act.put, List.setIfInBounds_toArray, List.set_cons_zero, List.set_cons_succ]
              refine wpAnyL_ready (rs := [5]) (by kernel_rfl) (by simp) ?_
              refine AllReadyL.cons rfl (fun K hK => ?_) AllReadyL.nil
              go_simp; go_at_call 29; refine (l03MovedS _ _ gs (sayL (rowO fs k) (rplY vn m fs (r : Int) k) m) _ ((KI.out.r 0 rfl : OpsAt wo (.slice a3 n3 c3) gs).below hHeld.2.2) (HTO.out.below hHeld.2.2) HGL.out HGR2.out (by omega)).mono ?_; rintro e w6 ⟨g6, c6, rfl, ho6, hb6⟩
              have HO6 := Lib.hid (ho6.mono (B' := wo.heap.size) hHeld.2.2.size)
              have HB6 := Lib.hid (hHeld.2.2.trans (hb6.mono hHeld.2.2.size))
              clear ho6
              refine hK.out _ _ ?_ (fun hHeld => ?_)
              · exact ⟨below_cell hb6 hHeld.1, below_cell hb6 hHeld.2.1, hHeld.2.2.trans (hb6.mono hHeld.2.2.size)⟩
              clear hK K
              try simp only [Act.put, List.setIfInBounds_toArray, List.set_cons_zero, List.set_cons_succ]
              refine wpAnyL_ready (rs := [6]) (by kernel_rfl) (by simp) ?_
              refine AllReadyL.last rfl (by kernel_rfl) (fun K hK => ?_) AllReadyL.nil
              obtain ⟨V5, hV5⟩ := HOI.out
              obtain ⟨xs5, ho5, hx5, hl5, h15⟩ := hV5.cellsOne
              obtain ⟨V6, hV6⟩ := HO6.out
              obtain ⟨xs6, ho6, hx6, hl6, h16⟩ := hV6.cellsOne
              have hm6 := movedL_len gs (sayL (rowO fs k) (rplY vn m fs (r : Int) k) m)
              rw [hm6] at hV6 ho6 hx6 hl6
              refine step_append_gen _ (by rfl) _ _ 30 (by rfl) (w1.heap.size + 1) 83 i0 (.agg #[.int .i64 0, .slice none 0 0]) 2 32 Try.underlying30 hi hz0 hz1 hz2 (by rfl) (by decide) (.slice a n c) (rplL vn m fs (r : Int) gs k).length xs5 (by rfl) (ownsRow_below ho5 HB6.out) ⟨g6, 0, none⟩ gs.length c6 xs6 (by rfl) hl6 (news_of_own ho6 hl6) h16 (by have := HLK.out; unfold maxLen; omega) (by have := HLK.out; omega) (by have := HB6.out.size; omega) ?_; intro a7 c7 w7 hown7 hgrow7 htop7
              have hG7 := OwnOpsV.cat (B := w1.heap.size + 1) hV5 rfl hl5 hx5 HB6.out hV6 hm6 hl6 hx6 hszo hown7 hgrow7 htop7
              have HB7 := Lib.hid ((HB6.out.mono hszo).grown hgrow7 (by have := HB6.out.size; omega) (fun q hq => (ho5.lt q hq).1))
              have hbx7 := HBI.out.same (HB7.out.block w1.heap.size (Nat.lt_succ_self _))
              have k2 : w7.cell? ⟨w1.heap.size, 2, none⟩ = some (.slice a n c) := hbx7.c 2 rfl
              have z2 := hbx7.free 2
              have HX8 := Lib.hid (hbx7.set 2 (.slice a7 ((rplL vn m fs (r : Int) gs k).length + gs.length) c7))
              have hG8 : OwnOps 83 w7 (w1.heap.size + 1) w7.heap.size (.slice a7 ((rplL vn m fs (r : Int) gs k).length + gs.length) c7) (rplL vn m fs (r : Int) gs k ++ movedL gs (sayL (rowO fs k) (rplY vn m fs (r : Int) k) m)) := by
                have e : (rplL vn m fs (r : Int) gs k ++ movedL gs (sayL (rowO fs k) (rplY vn m fs (r : Int) k) m)).length = (rplL vn m fs (r : Int) gs k).length + gs.length := by rw [List.length_append, hm6]
                show ∃ V, OwnOpsV _ _ _ _ _ (rplL vn m fs (r : Int) gs k ++ movedL gs (sayL (rowO fs k) (rplY vn m fs (r : Int) k) m)).length V _
                rw [e]
                exact ⟨_, hG7⟩
              have HG8 := Lib.hid ((hG8.stored (p := ⟨w1.heap.size, 2, none⟩) (Nat.lt_succ_self _) (.slice a7 ((rplL vn m fs (r : Int) gs k).length + gs.length) c7)).full)
              have HBW8 := Lib.hid ((HBI1.out.trans (HB7.out.mono (Nat.le_succ _))).setCell (p := ⟨w1.heap.size, 2, none⟩) (Nat.le_refl _) (.slice a7 ((rplL vn m fs (r : Int) gs k).length + gs.length) c7))
              have HZ8 : Hid (w1.heap.size + 1 ≤ (w7.setCell ⟨w1.heap.size, 2, none⟩ (.slice a7 ((rplL vn m fs (r : Int) gs k).length + gs.length) c7)).heap.size) := Lib.hid (by have := HB7.out.size; simp [World.setCell]; omega)
              clear hown7 hgrow7 htop7 ho5 ho6 hV5 hV6 hx5 hx6 hG7 hG8 hbx7 h15 h16
              refine hK.out _ _ ?_
              clear hK K
              try simp only [Act.put, List.setIfInBounds_toArray, List.set_cons_zero, List.set_cons_succ]
              refine wpAnyL_free (i := 7) (v := ?_) (some 109) rfl rfl (by kernel_rfl) (by kernel_rfl) (by kernel_rfl) (by decide) (fun _ _ _ h => h) (Or.inl ⟨by rfl, ?_⟩) (fun h0 => absurd h0 (by decide)) ?_
              rotate_left
              · intro wS
                go_simp
                try with_reducible rfl
              try simp only [Act.put, List.setIfInBounds_toArray, List.set_cons_zero, List.set_cons_succ]
              refine wpAnyL_ready (rs := [8]) (by kernel_rfl) (by simp) ?_
              refine AllReadyL.last rfl (by kernel_rfl) (fun K hK => ?_) AllReadyL.nil
              go_simp
              refine hK.out _ _ ?_
              clear hK K
              try simp only [Act.put, List.setIfInBounds_toArray, List.set_cons_zero, List.set_cons_succ]
              refine wpAnyL_done (by kernel_rfl) ?_ _
              refine NoPanic.normal ?_
              go_wp2
              go_roundw
              case rel =>
                refine ⟨k + 1, a7, (rplL vn m fs (r : Int) gs k).length + gs.length, c7, by omega, by go_num, ?_, ?_, HBW8.out, HZ8.out⟩
                · rw [rplY_yes HREL.out]; exact HX8.out
                · rw [rplL_yes HREL.out]; exact HG8.out
              case measure => simp [intOf]; omega
        · have hrb : (arO fs k == (r : Int)) = false := beq_eq_false_iff_ne.2 hrel2
          have hrb2 : (arO fs k != (r : Int)) = true := bne_iff_ne.2 hrel2
          obtain ⟨lk, hlk⟩ : ∃ lk, (rplL vn m fs (r : Int) gs k).length = lk := ⟨_, rfl⟩
          have HLN := Lib.hid hlk
          have hkm : lk ≤ 1000 := by have := HLK.out; omega
          have HBX := Lib.hid hbx
          have HG := Lib.hid hol
          have HROW := Lib.hid hr
          have HBW := Lib.hid hbr
          have HSZ := Lib.hid hsz
          have g1 := HBX.out.c 2 rfl
          clear hbx hol hr hbr hlk
          go_wp2
          refine wp_region_noPanic ?_
          refine wp_region_late (S := (fun w' => w'.cell? ⟨w1.heap.size, 2, none⟩ = some (.slice a n c) ∧ w'.cell? ⟨b1, off1 + k * 2, none⟩ = some (.int .i64 (arO fs k)) ∧ w'.cell? ⟨b1, off1 + k * 2 + 1, none⟩ = some (.slice a4 (rowO fs k).length c4) ∧ w'.cell? ⟨w.heap.size + 1, 2, none⟩ = some (.slice (some ⟨b1, off1, none⟩) fs.length c2) ∧ Below wr.heap.size wr w')) [17, 19] (by kernel_rfl) ?_ (fun hHeld => ?_)
          · exact ⟨g1, y0, y1, xc, (QW.refl _).drew.below _⟩
          refine wpAnyL_free (i := 0) (v := ?_) (some 59) rfl rfl (by kernel_rfl) (by kernel_rfl) (by kernel_rfl) (by decide) (fun _ _ _ h => h) (Or.inl ⟨by rfl, ?_⟩) (fun h0 => by assumption) ?_
          rotate_left
          · intro wS
            go_simp
            try with_reducible rfl
          try simp only [Act.put, List.setIfInBounds_toArray, List.set_cons_zero, List.set_cons_succ]
          refine wpAnyL_take (i := 1) (v := ?_) (some 60) rfl rfl (by kernel_rfl) (by kernel_rfl) (by kernel_rfl) (by kernel_rfl) (by kernel_rfl) (fun _ _ _ h => h) (Or.inl ⟨by rfl, ?_⟩) (by assumption) ?_
          rotate_left
          · intro wS hSw
            try dsimp only at hSw
            go_simp
            try with_reducible rfl
          try simp only [Act.put, List.setIfInBounds_toArray, List.set_cons_zero, List.set_cons_succ]
          refine wpAnyL_free (i := 2) (v := ?_) (some 61) rfl rfl (by kernel_rfl) (by kernel_rfl) (by kernel_rfl) (by decide) (fun _ _ _ h => h) (Or.inl ⟨by rfl, ?_⟩) (fun h0 => by assumption) ?_
          rotate_left
          · intro wS
            go_simp
            try with_reducible rfl
          try simp only [Act.put, List.setIfInBounds_toArray, List.set_cons_zero, List.set_cons_succ]
          refine wpAnyL_take (i := 3) (v := ?_) (some 62) rfl rfl (by kernel_rfl) (by kernel_rfl) (by kernel_rfl) (by kernel_rfl) (by kernel_rfl) (fun _ _ _ h => h) (Or.inl ⟨by rfl, ?_⟩) (by assumption) ?_
          rotate_left
          · intro wS hSw
            try dsimp only at hSw
            go_simp
            try with_reducible rfl
          try simp only [Act.put, List.setIfInBounds_toArray, List.set_cons_zero, List.set_cons_succ]
          refine wpAnyL_free (i := 4) (v := ?_) (some 63) rfl rfl (by kernel_rfl) (by kernel_rfl) (by kernel_rfl) (by decide) (fun _ _ _ h => h) (Or.inl ⟨by rfl, ?_⟩) (fun h0 => by assumption) ?_
          rotate_left
          · intro wS
            go_simp
            try with_reducible rfl
          try simp only [Act.put, List.setIfInBounds_toArray, List.set_cons_zero, List.set_cons_succ]
          refine wpAnyL_free (i := 5) (v := ?_) (some 64) rfl rfl (by kernel_rfl) (by kernel_rfl) (by kernel_rfl) (by decide) (fun _ _ _ h => h) (Or.inl ⟨by rfl, ?_⟩) (fun h0 => by assumption) ?_
          rotate_left
          · intro wS
            go_simp
            try with_reducible rfl
          try simp only [Act.put, List.setIfInBounds_toArray, List.set_cons_zero, List.set_cons_succ]
          refine wpAnyL_free (i := 6) (v := ?_) (some 65) rfl rfl (by kernel_rfl) (by kernel_rfl) (by kernel_rfl) (by decide) (fun _ _ _ h => h) (Or.inl ⟨by rfl, ?_⟩) (fun h0 => by assumption) ?_
          rotate_left
          · intro wS
            go_simp
            try with_reducible rfl
          try simp only [Act.put, List.setIfInBounds_toArray, List.set_cons_zero, List.set_cons_succ]
          refine wpAnyL_take (i := 7) (v := ?_) (some 66) rfl rfl (by kernel_rfl) (by kernel_rfl) (by kernel_rfl) (by kernel_rfl) (by kernel_rfl) (fun _ _ _ h => h) (Or.inl ⟨by rfl, ?_⟩) (by assumption) ?_
          rotate_left
          · intro wS hSw
            try dsimp only at hSw
            go_simp
            try with_reducible rfl
          try simp only [Act.put, List.setIfInBounds_toArray, List.set_cons_zero, List.set_cons_succ]
          refine wpAnyL_free (i := 8) (v := ?_) (some 67) rfl rfl (by kernel_rfl) (by kernel_rfl) (by kernel_rfl) (by decide) (fun _ _ _ h => h) (Or.inl ⟨by rfl, ?_⟩) (fun h0 => by assumption) ?_
          rotate_left
          · intro wS
            go_simp
            try with_reducible rfl
          try simp only [Act.put, List.setIfInBounds_toArray, List.set_cons_zero, List.set_cons_succ]
          refine wpAnyL_take (i := 9) (v := ?_) (some 68) rfl rfl (by kernel_rfl) (by kernel_rfl) (by kernel_rfl) (by kernel_rfl) (by kernel_rfl) (fun _ _ _ h => h) (Or.inl ⟨by rfl, ?_⟩) (by assumption) ?_
          rotate_left
          · intro wS hSw
            try dsimp only at hSw
            go_simp
            try with_reducible rfl
          try simp only [Act.put, List.setIfInBounds_toArray, List.set_cons_zero, List.set_cons_succ]
          refine wpAnyL_free (i := 10) (v := ?_) (some 69) rfl rfl (by kernel_rfl) (by kernel_rfl) (by kernel_rfl) (by decide) (fun _ _ _ h => h) (Or.inl ⟨by rfl, ?_⟩) (fun h0 => by assumption) ?_
          rotate_left
          · intro wS
            go_simp
            try with_reducible rfl
          try simp only [Act.put, List.setIfInBounds_toArray, List.set_cons_zero, List.set_cons_succ]
          refine wpAnyL_free (i := 11) (v := ?_) (some 70) rfl rfl (by kernel_rfl) (by kernel_rfl) (by kernel_rfl) (by decide) (fun _ _ _ h => h) (Or.inl ⟨by rfl, ?_⟩) (fun h0 => by assumption) ?_
          rotate_left
          · intro wS
            go_simp
            try with_reducible rfl
          try simp only [Act.put, List.setIfInBounds_toArray, List.set_cons_zero, List.set_cons_succ]
          refine wpAnyL_free (i := 12) (v := ?_) (some 71) rfl rfl (by kernel_rfl) (by kernel_rfl) (by kernel_rfl) (by decide) (fun _ _ _ h => h) (Or.inl ⟨by rfl, ?_⟩) (fun h0 => by assumption) ?_
          rotate_left
          · intro wS
            go_simp
            try with_reducible rfl
          try simp only [Act.put, List.setIfInBounds_toArray, List.set_cons_zero, List.set_cons_succ]
          refine wpAnyL_take (i := 13) (v := ?_) (some 72) rfl rfl (by kernel_rfl) (by kernel_rfl) (by kernel_rfl) (by kernel_rfl) (by kernel_rfl) (fun _ _ _ h => h) (Or.inl ⟨by rfl, ?_⟩) (by assumption) ?_
          rotate_left
          · intro wS hSw
            try dsimp only at hSw
            go_simp
            try with_reducible rfl
          try simp only [Act.put, List.setIfInBounds_toArray, List.set_cons_zero, List.set_cons_succ]
          refine wpAnyL_ready (rs := [14]) (by kernel_rfl) (by simp) ?_
          refine AllReadyL.cons rfl (fun K hK => ?_) AllReadyL.nil
          go_simp; go_at_call 46; refine (l00Own _ _ _ (rowO fs k) _ (HROW.out.below hHeld.2.2.2.2) hr0 (by omega)).mono ?_; rintro e w3 ⟨a3, c3, rfl, ho3, hb3⟩
          have HO3 := Lib.hid (ho3.mono (B' := wr.heap.size) hHeld.2.2.2.2.size)
          have HB3 := Lib.hid (hHeld.2.2.2.2.trans (hb3.mono hHeld.2.2.2.2.size))
          refine hK.out _ _ ?_ (fun hHeld => ?_)
          · exact ⟨below_cell hb3 hHeld.1, below_cell hb3 hHeld.2.1, below_cell hb3 hHeld.2.2.1, below_cell hb3 hHeld.2.2.2.1, hHeld.2.2.2.2.trans (hb3.mono hHeld.2.2.2.2.size)⟩
          clear hK K
          try simp only [Act.put, List.setIfInBounds_toArray, List.set_cons_zero, List.set_cons_succ]
          refine wpAnyL_free (i := 15) (v := ?_) (some 74) rfl rfl (by kernel_rfl) (by kernel_rfl) (by kernel_rfl) (by decide) (fun _ _ _ h => h) (Or.inl ⟨by rfl, ?_⟩) (fun h0 => by assumption) ?_
          rotate_left
          · intro wS
            go_simp
            try with_reducible rfl
          try simp only [Act.put, List.setIfInBounds_toArray, List.set_cons_zero, List.set_cons_succ]
          refine wpAnyL_ready (rs := [16]) (by kernel_rfl) (by simp) ?_
          refine AllReadyL.cons rfl (fun K hK => ?_) AllReadyL.nil
          go_simp
          refine hK.out _ _ ?_ (fun hHeld => ?_)
          · exact ⟨below_cell ((Below.refl _ _).alloc (Nat.le_refl _) _) hHeld.1, below_cell ((Below.refl _ _).alloc (Nat.le_refl _) _) hHeld.2.1, below_cell ((Below.refl _ _).alloc (Nat.le_refl _) _) hHeld.2.2.1, below_cell ((Below.refl _ _).alloc (Nat.le_refl _) _) hHeld.2.2.2.1, hHeld.2.2.2.2.trans (((Below.refl _ _).alloc (Nat.le_refl _) _).mono hHeld.2.2.2.2.size)⟩
          clear hK K
          try simp only [Act.put, List.setIfInBounds_toArray, List.set_cons_zero, List.set_cons_succ]
          refine wpAnyL_ready (rs := [17]) (by kernel_rfl) (by simp) ?_
          refine AllReadyL.last rfl (by kernel_rfl) (fun K hK => ?_) AllReadyL.nil
          obtain ⟨V, hV⟩ := HG.out
          have hV' := hV
          obtain ⟨xs, hxo, hxx⟩ := hV'.outer
          have HV := Lib.hid hV
          have HX := Lib.hid hxx
          have hxl := ownsRow_len hxo
          have HXL := Lib.hid hxl
          have hal := (Below.refl w3.heap.size w3).alloc (Nat.le_refl _) (.cells #[.int .i64 (arO fs k), .slice a3 (rowO fs k).length c3] 83)
          have HAL := Lib.hid hal
          clear hV hV' hxx hxl hal
          refine step_append_lies _ (by rfl) _ _ 30 (by rfl) (w1.heap.size + 1) 83 i0 (.agg #[.int .i64 0, .slice none 0 0]) 2 32 Try.underlying30 hi hz0 hz1 hz2 (by rfl) (by decide) (.slice a n c) (rplL vn m fs (r : Int) gs k).length _ (by rfl) ((ownsRow_below hxo (HB3.out)).alloc _) _ 1 1 [.int .i64 (arO fs k), .slice a3 (rowO fs k).length c3] (by rfl) (by rfl) (fun j u hu => World.news_of_block (heap_alloc_new w3 _) j u (by simpa using hu)) (by simp [Value.oneCell']) (by omega) (by rw [HLN.out]; unfold maxLen; omega) (by rw [HLN.out]; omega) (by have := HB3.out.size; have := HSZ.out; simp; omega) _ rfl ?_; intro g5 cap5 w5 hown5 hgrow5 hat5 hlt5
          have HGM := Lib.hid (OwnOpsV.grow HV.out rfl HXL.out HX.out (HB3.out.trans (HAL.out.mono HB3.out.size)) (OwnRow.below HO3.out HAL.out) HSZ.out hown5 hgrow5 (fun g hg => by
            obtain rfl : g5 = g := by simpa [Value.ownBlock] using hg
            rcases hat5 with e | e
            · exact .inl e
            · exact .inr (by omega)))
          have HB5 := Lib.hid (((HB3.out.trans (HAL.out.mono HB3.out.size)).mono HSZ.out).grown hgrow5 (by have := HB3.out.size; have := HSZ.out; simp; omega) (fun q hq => (hxo.lt q hq).1))
          have hb5 := HBX.out.same (HB5.out.block w1.heap.size (Nat.lt_succ_self _))
          have k2 : w5.cell? ⟨w1.heap.size, 2, none⟩ = some (.slice a n c) := hb5.c 2 rfl
          have z2 := hb5.free 2
          have HB6 := Lib.hid (hb5.set 2 (.slice (some ⟨g5, 0, none⟩) ((rplL vn m fs (r : Int) gs k).length + 1) cap5))
          have hG2 : OwnOps 83 w5 (w1.heap.size + 1) w5.heap.size (.slice (some ⟨g5, 0, none⟩) ((rplL vn m fs (r : Int) gs k).length + 1) cap5) ((rplL vn m fs (r : Int) gs k) ++ [(arO fs k, rowO fs k)]) := by
            have e : ((rplL vn m fs (r : Int) gs k) ++ [(arO fs k, rowO fs k)]).length = (rplL vn m fs (r : Int) gs k).length + 1 := by simp
            show ∃ V, OwnOpsV _ _ _ _ _ ((rplL vn m fs (r : Int) gs k) ++ [(arO fs k, rowO fs k)]).length V _
            rw [e]
            exact ⟨_, HGM.out⟩
          have HG6 := Lib.hid ((hG2.stored (p := ⟨w1.heap.size, 2, none⟩) (Nat.lt_succ_self _) (.slice (some ⟨g5, 0, none⟩) ((rplL vn m fs (r : Int) gs k).length + 1) cap5)).full)
          have HBE := Lib.hid ((HBW.out.trans (HB5.out.mono (Nat.le_succ _))).setCell (p := ⟨w1.heap.size, 2, none⟩) (Nat.le_refl _) (.slice (some ⟨g5, 0, none⟩) ((rplL vn m fs (r : Int) gs k).length + 1) cap5))
          have HZ6 : Hid (w1.heap.size + 1 ≤ (w5.setCell ⟨w1.heap.size, 2, none⟩ (.slice (some ⟨g5, 0, none⟩) ((rplL vn m fs (r : Int) gs k).length + 1) cap5)).heap.size) := Lib.hid (by have := HB5.out.size; have := HSZ.out; simp [World.setCell]; omega)
          clear hown5 hgrow5 hat5 hlt5 hxo hb5 hG2
          refine hK.out _ _ ?_
          clear hK K
          try simp only [Act.put, List.setIfInBounds_toArray, List.set_cons_zero, List.set_cons_succ]
          refine wpAnyL_free (i := 18) (v := ?_) (some 77) rfl rfl (by kernel_rfl) (by kernel_rfl) (by kernel_rfl) (by decide) (fun _ _ _ h => h) (Or.inl ⟨by rfl, ?_⟩) (fun h0 => absurd h0 (by decide)) ?_
          rotate_left
          · intro wS
            go_simp
            try with_reducible rfl
          try simp only [Act.put, List.setIfInBounds_toArray, List.set_cons_zero, List.set_cons_succ]
          refine wpAnyL_ready (rs := [19]) (by kernel_rfl) (by simp) ?_
          refine AllReadyL.last rfl (by kernel_rfl) (fun K hK => ?_) AllReadyL.nil
          go_simp
          refine hK.out _ _ ?_
          clear hK K
          try simp only [Act.put, List.setIfInBounds_toArray, List.set_cons_zero, List.set_cons_succ]
          refine wpAnyL_done (by kernel_rfl) ?_ _
          refine NoPanic.normal ?_
          go_wp2
          go_roundw
          case rel =>
            refine ⟨k + 1, some ⟨g5, 0, none⟩, (rplL vn m fs (r : Int) gs k).length + 1, cap5, by omega, by go_num, ?_, ?_, HBE.out, HZ6.out⟩
            · rw [rplY_no hrel2]; exact HB6.out
            · rw [rplL_no hrel2]; exact HG6.out
          case measure => simp [intOf]; omega
      · obtain rfl : k = fs.length := by omega
        have HRR := Lib.hid (HR.out.same (hbr.block _ HR.out.lt))
        have g0 := hbx.c 0 rfl
        have g1 := hbx.c 1 rfl
        have g2 := hbx.c 2 rfl
        have HG := Lib.hid hol
        have xc := KR.out.c 5 rfl
        have HNL : Hid (n = (rplL vn m fs (r : Int) gs fs.length).length) := Lib.hid (by
          obtain ⟨V, hV⟩ := hol
          obtain ⟨xs, h1, _⟩ := hV.outer
          rcases ownsRow2_parts h1 with ⟨e1, e2, _⟩ | ⟨g, cc, e1, _⟩
          · simp only [Value.slice.injEq] at e1; omega
          · simp only [Value.slice.injEq] at e1; omega)
        clear hbx hol hbr
        rcases HI2.out with ⟨hfit, rfl, rfl, rfl, rfl⟩ | ⟨hfit, rfl, rfl, rfl, rfl⟩
        · have hy8 := hfit.1
          have hl16 := hfit.2
          go_wp2_with (go_at_call 30; refine (l03Told_ok fr ((rplY vn m fs (r : Int) fs.length : Nat) : Int) a n c _ (by omega) (by have := HNL.out; omega)).mono ?_; rintro e w7 ⟨rfl, hb7⟩; have HR7 := Lib.hid (HRR.out.below hb7); have e0 := HR7.out.c 0 rfl; have f0 := HR7.out.free 0; have e1 := HR7.out.c 1 rfl; have f1 := HR7.out.free 1; have e2 := HR7.out.c 2 rfl; have f2 := HR7.out.free 2; have HB7 := Lib.hid hb7; clear hb7)
          refine bodyPost_ret (v := .tuple #[.agg #[.int .i64 fr, .int .i64 ((rplY vn m fs (r : Int) fs.length : Nat) : Int), .slice a n c], .int .i64 0]) (by simp [results, Try.results22, go_sem, e0, e1, e2]) rfl ⟨_, _, _, rfl, ?_, ?_⟩
          · exact (((((HG.out.below HB7.out).stored (by show w.heap.size + 3 < w1.heap.size + 1; omega) _).stored (by show w.heap.size + 3 < w1.heap.size + 1; omega) _).stored (by show w.heap.size + 3 < w1.heap.size + 1; omega) _).mono (by omega)).full
          · exact ((((KR.out.bel.trans (HB7.out.mono KR.out.bel.size)).setCell (by show w.heap.size ≤ w.heap.size + 3; omega) _).setCell (by show w.heap.size ≤ w.heap.size + 3; omega) _).setCell (by show w.heap.size ≤ w.heap.size + 3; omega) _)
        · by_cases hy8 : 8 < rplY vn m fs (r : Int) fs.length
          · skip
            go_wp2_with (go_at_call 30; refine (l03Told_told1 fr ((rplY vn m fs (r : Int) fs.length : Nat) : Int) a n c _ (by omega)).mono ?_; rintro e w7 ⟨rfl, hb7⟩; have HR7 := Lib.hid (HRR.out.below hb7); have e0 := HR7.out.c 0 rfl; have f0 := HR7.out.free 0; have e1 := HR7.out.c 1 rfl; have f1 := HR7.out.free 1; have e2 := HR7.out.c 2 rfl; have f2 := HR7.out.free 2; have HB7 := Lib.hid hb7; clear hb7)
            refine bodyPost_ret (v := .tuple #[.agg #[.int .i64 0, .int .i64 0, .slice none 0 0], .int .i64 3]) (by simp [results, Try.results22, go_sem, e0, e1, e2]) rfl ⟨_, _, _, rfl, OwnOps.nil _ _ _ _ (Nat.le_refl _), ?_⟩
            exact ((((KR.out.bel.trans (HB7.out.mono KR.out.bel.size)).setCell (by show w.heap.size ≤ w.heap.size + 3; omega) _).setCell (by show w.heap.size ≤ w.heap.size + 3; omega) _).setCell (by show w.heap.size ≤ w.heap.size + 3; omega) _)
          · have hl16 : 16 < (rplL vn m fs (r : Int) gs fs.length).length := Classical.byContradiction fun h => hfit ⟨by omega, by omega⟩
            go_wp2_with (go_at_call 30; refine (l03Told_told2 fr ((rplY vn m fs (r : Int) fs.length : Nat) : Int) a n c _ (by omega) (by have := HNL.out; omega)).mono ?_; rintro e w7 ⟨rfl, hb7⟩; have HR7 := Lib.hid (HRR.out.below hb7); have e0 := HR7.out.c 0 rfl; have f0 := HR7.out.free 0; have e1 := HR7.out.c 1 rfl; have f1 := HR7.out.free 1; have e2 := HR7.out.c 2 rfl; have f2 := HR7.out.free 2; have HB7 := Lib.hid hb7; clear hb7)
            refine bodyPost_ret (v := .tuple #[.agg #[.int .i64 0, .int .i64 0, .slice none 0 0], .int .i64 3]) (by simp [results, Try.results22, go_sem, e0, e1, e2]) rfl ⟨_, _, _, rfl, OwnOps.nil _ _ _ _ (Nat.le_refl _), ?_⟩
            exact ((((KR.out.bel.trans (HB7.out.mono KR.out.bel.size)).setCell (by show w.heap.size ≤ w.heap.size + 3; omega) _).setCell (by show w.heap.size ≤ w.heap.size + 3; omega) _).setCell (by show w.heap.size ≤ w.heap.size + 3; omega) _)
  · have HV := Lib.hid (Tells.yes hf)
    have HW := Lib.hid (Tells.yes hg)
    obtain ⟨r, rfl⟩ : ∃ r : Nat, rel = r := ⟨rel.toNat, by omega⟩
    have hrr : r < rs.length := by omega
    have hrrI : (r : Int) < (rs.length : Int) := by omega
    have HIN : Hid (Tells true (InP (r : Int) 0 ((rs.length : Int) - 1))) := Lib.hid (Tells.yes ⟨by omega, by omega⟩)
    rw [Int.toNat_natCast] at hne
    have hab : (fr2 == arN rs r) = false := beq_eq_false_iff_ne.2 hne
    have hab2 : (fr2 != arN rs r) = true := bne_iff_ne.2 hne
    clear hf hg hin hne
    go_enter Try.func22, Try.ntmps22
    go_wp2_with fail
    refine (l03Ok _ _ _ rs _ _ _ _ fs true _ (HTP _ (Below.refl _ _)) (HFP _ (Below.refl _ _)) HV.out).mono ?_
    rintro e v1 ⟨rfl, hq1⟩
    have HB1 := Lib.hid (show Below _ _ v1 from hq1.bel)
    have K1 := Lib.hid (K0.out.below HB1.out)
    have HR1 := Lib.hid (HR0.out.below HB1.out)
    have hsv1 : w.heap.size + 4 ≤ v1.heap.size := by have := HB1.out.size; simpa using this
    clear hq1
    have cc0 := K1.out.c 0 rfl
    have cc1 := K1.out.c 1 rfl
    have cc2 := K1.out.c 2 rfl
    have cc3 := K1.out.c 3 rfl
    have cc4 := K1.out.c 4 rfl
    have cc5 := K1.out.c 5 rfl
    have cc6 := K1.out.c 6 rfl
    have cc7 := K1.out.c 7 rfl
    go_wp2_with fail
    refine (l03Ok _ _ _ rs _ _ _ _ gs true _ (HTP _ HB1.out) (HGP _ HB1.out) HW.out).mono ?_
    rintro e v2 ⟨rfl, hq2⟩
    have hb2 := (show Below v1.heap.size v1 v2 from hq2.bel)
    have K2 := Lib.hid (K1.out.below hb2)
    have HR2 := Lib.hid (HR1.out.below hb2)
    have hsv2 : w.heap.size + 4 ≤ v2.heap.size := by have := hb2.size; omega
    clear cc0 cc1 cc2 cc3 cc4 cc5 cc6 cc7
    clear hb2 hq2
    have cc0 := K2.out.c 0 rfl
    have cc1 := K2.out.c 1 rfl
    have cc2 := K2.out.c 2 rfl
    have cc3 := K2.out.c 3 rfl
    have cc4 := K2.out.c 4 rfl
    have cc5 := K2.out.c 5 rfl
    have cc6 := K2.out.c 6 rfl
    have cc7 := K2.out.c 7 rfl
    go_wp2_with fail
    refine (l00In _ _ _ true _ HIN.out).mono ?_
    rintro e v3 ⟨rfl, rfl⟩
    obtain ⟨ra, rc, hrv, hrn, hrc⟩ := (K2.out.r 2 rfl : RelsAt v2 (.slice a1 rs.length c1) rs)
    simp only [Value.slice.injEq] at hrv
    obtain ⟨rfl, _, rfl⟩ := hrv
    obtain ⟨b3, off3, ha3, hcell3⟩ := hrc (by omega)
    subst ha3
    obtain ⟨z0, -⟩ := hcell3 r hrr
    clear hrc hcell3
    go_wp2
    go_quiet (fail)
    have e0 := HR2.out.c 0 rfl
    have f0 := HR2.out.free 0
    have e1 := HR2.out.c 1 rfl
    have f1 := HR2.out.free 1
    have e2 := HR2.out.c 2 rfl
    have f2 := HR2.out.free 2
    try go_wp2
    refine bodyPost_ret (v := .tuple #[.agg #[.int .i64 0, .int .i64 0, .slice none 0 0], .int .i64 4]) (by simp [results, Try.results22, go_sem, e0, e1, e2]) rfl ⟨_, _, _, rfl, OwnOps.nil _ _ _ _ (Nat.le_refl _), ?_⟩
    exact ((((K2.out.drewN _).bel.setCell (by show w.heap.size ≤ w.heap.size + 3; omega) _).setCell (by show w.heap.size ≤ w.heap.size + 3; omega) _).setCell (by show w.heap.size ≤ w.heap.size + 3; omega) _)
  · have HV := Lib.hid (Tells.yes hf)
    have HW := Lib.hid (Tells.yes hg)
    have HIN : Hid (Tells false (InP rel 0 ((rs.length : Int) - 1))) := Lib.hid (Tells.no fun h => hin ⟨h.1, by have := h.2; omega⟩)
    clear hf hg hin
    go_enter Try.func22, Try.ntmps22
    go_wp2_with fail
    refine (l03Ok _ _ _ rs _ _ _ _ fs true _ (HTP _ (Below.refl _ _)) (HFP _ (Below.refl _ _)) HV.out).mono ?_
    rintro e v1 ⟨rfl, hq1⟩
    have HB1 := Lib.hid (show Below _ _ v1 from hq1.bel)
    have K1 := Lib.hid (K0.out.below HB1.out)
    have HR1 := Lib.hid (HR0.out.below HB1.out)
    have hsv1 : w.heap.size + 4 ≤ v1.heap.size := by have := HB1.out.size; simpa using this
    clear hq1
    have cc0 := K1.out.c 0 rfl
    have cc1 := K1.out.c 1 rfl
    have cc2 := K1.out.c 2 rfl
    have cc3 := K1.out.c 3 rfl
    have cc4 := K1.out.c 4 rfl
    have cc5 := K1.out.c 5 rfl
    have cc6 := K1.out.c 6 rfl
    have cc7 := K1.out.c 7 rfl
    go_wp2_with fail
    refine (l03Ok _ _ _ rs _ _ _ _ gs true _ (HTP _ HB1.out) (HGP _ HB1.out) HW.out).mono ?_
    rintro e v2 ⟨rfl, hq2⟩
    have hb2 := (show Below v1.heap.size v1 v2 from hq2.bel)
    have K2 := Lib.hid (K1.out.below hb2)
    have HR2 := Lib.hid (HR1.out.below hb2)
    have hsv2 : w.heap.size + 4 ≤ v2.heap.size := by have := hb2.size; omega
    clear cc0 cc1 cc2 cc3 cc4 cc5 cc6 cc7
    clear hb2 hq2
    have cc0 := K2.out.c 0 rfl
    have cc1 := K2.out.c 1 rfl
    have cc2 := K2.out.c 2 rfl
    have cc3 := K2.out.c 3 rfl
    have cc4 := K2.out.c 4 rfl
    have cc5 := K2.out.c 5 rfl
    have cc6 := K2.out.c 6 rfl
    have cc7 := K2.out.c 7 rfl
    have e0 := HR2.out.c 0 rfl
    have f0 := HR2.out.free 0
    have e1 := HR2.out.c 1 rfl
    have f1 := HR2.out.free 1
    have e2 := HR2.out.c 2 rfl
    have f2 := HR2.out.free 2
    go_wp2_with fail
    refine (l00In _ _ _ false _ HIN.out).mono ?_
    rintro e v3 ⟨rfl, rfl⟩
    have e0 := HR2.out.c 0 rfl
    have f0 := HR2.out.free 0
    have e1 := HR2.out.c 1 rfl
    have f1 := HR2.out.free 1
    have e2 := HR2.out.c 2 rfl
    have f2 := HR2.out.free 2
    try go_wp2
    refine bodyPost_ret (v := .tuple #[.agg #[.int .i64 0, .int .i64 0, .slice none 0 0], .int .i64 2]) (by simp [results, Try.results22, go_sem, e0, e1, e2]) rfl ⟨_, _, _, rfl, OwnOps.nil _ _ _ _ (Nat.le_refl _), ?_⟩
    exact (((K2.out.bel.setCell (by show w.heap.size ≤ w.heap.size + 3; omega) _).setCell (by show w.heap.size ≤ w.heap.size + 3; omega) _).setCell (by show w.heap.size ≤ w.heap.size + 3; omega) _)
  · by_cases hf : FormOk sz rs fr va fs
    · have HV := Lib.hid (Tells.yes hf)
      have HW := Lib.hid (Tells.no fun hg => hno ⟨hf, hg⟩)
      clear hf hno
      go_enter Try.func22, Try.ntmps22
      go_wp2_with fail
      refine (l03Ok _ _ _ rs _ _ _ _ fs true _ (HTP _ (Below.refl _ _)) (HFP _ (Below.refl _ _)) HV.out).mono ?_
      rintro e v1 ⟨rfl, hq1⟩
      have HB1 := Lib.hid (show Below _ _ v1 from hq1.bel)
      have K1 := Lib.hid (K0.out.below HB1.out)
      have HR1 := Lib.hid (HR0.out.below HB1.out)
      have hsv1 : w.heap.size + 4 ≤ v1.heap.size := by have := HB1.out.size; simpa using this
      clear hq1
      have cc0 := K1.out.c 0 rfl
      have cc1 := K1.out.c 1 rfl
      have cc2 := K1.out.c 2 rfl
      have cc3 := K1.out.c 3 rfl
      have cc4 := K1.out.c 4 rfl
      have cc5 := K1.out.c 5 rfl
      have cc6 := K1.out.c 6 rfl
      have cc7 := K1.out.c 7 rfl
      go_wp2_with fail
      refine (l03Ok _ _ _ rs _ _ _ _ gs false _ (HTP _ HB1.out) (HGP _ HB1.out) HW.out).mono ?_
      rintro e v2 ⟨rfl, hq2⟩
      have hb2 := (show Below v1.heap.size v1 v2 from hq2.bel)
      have K2 := Lib.hid (K1.out.below hb2)
      have HR2 := Lib.hid (HR1.out.below hb2)
      have hsv2 : w.heap.size + 4 ≤ v2.heap.size := by have := hb2.size; omega
      clear cc0 cc1 cc2 cc3 cc4 cc5 cc6 cc7
      clear hb2 hq2
      have cc0 := K2.out.c 0 rfl
      have cc1 := K2.out.c 1 rfl
      have cc2 := K2.out.c 2 rfl
      have cc3 := K2.out.c 3 rfl
      have cc4 := K2.out.c 4 rfl
      have cc5 := K2.out.c 5 rfl
      have cc6 := K2.out.c 6 rfl
      have cc7 := K2.out.c 7 rfl
      have e0 := HR2.out.c 0 rfl
      have f0 := HR2.out.free 0
      have e1 := HR2.out.c 1 rfl
      have f1 := HR2.out.free 1
      have e2 := HR2.out.c 2 rfl
      have f2 := HR2.out.free 2
      try go_wp2
      refine bodyPost_ret (v := .tuple #[.agg #[.int .i64 0, .int .i64 0, .slice none 0 0], .int .i64 1]) (by simp [results, Try.results22, go_sem, e0, e1, e2]) rfl ⟨_, _, _, rfl, OwnOps.nil _ _ _ _ (Nat.le_refl _), ?_⟩
      exact (((K2.out.bel.setCell (by show w.heap.size ≤ w.heap.size + 3; omega) _).setCell (by show w.heap.size ≤ w.heap.size + 3; omega) _).setCell (by show w.heap.size ≤ w.heap.size + 3; omega) _)
    · have HV := Lib.hid (Tells.no hf)
      clear hf hno
      go_enter Try.func22, Try.ntmps22
      go_wp2_with fail
      refine (l03Ok _ _ _ rs _ _ _ _ fs false _ (HTP _ (Below.refl _ _)) (HFP _ (Below.refl _ _)) HV.out).mono ?_
      rintro e v1 ⟨rfl, hq1⟩
      have HB1 := Lib.hid (show Below _ _ v1 from hq1.bel)
      have K1 := Lib.hid (K0.out.below HB1.out)
      have HR1 := Lib.hid (HR0.out.below HB1.out)
      have hsv1 : w.heap.size + 4 ≤ v1.heap.size := by have := HB1.out.size; simpa using this
      clear hq1
      have cc0 := K1.out.c 0 rfl
      have cc1 := K1.out.c 1 rfl
      have cc2 := K1.out.c 2 rfl
      have cc3 := K1.out.c 3 rfl
      have cc4 := K1.out.c 4 rfl
      have cc5 := K1.out.c 5 rfl
      have cc6 := K1.out.c 6 rfl
      have cc7 := K1.out.c 7 rfl
      have e0 := HR1.out.c 0 rfl
      have f0 := HR1.out.free 0
      have e1 := HR1.out.c 1 rfl
      have f1 := HR1.out.free 1
      have e2 := HR1.out.c 2 rfl
      have f2 := HR1.out.free 2
      try go_wp2
      refine bodyPost_ret (v := .tuple #[.agg #[.int .i64 0, .int .i64 0, .slice none 0 0], .int .i64 1]) (by simp [results, Try.results22, go_sem, e0, e1, e2]) rfl ⟨_, _, _, rfl, OwnOps.nil _ _ _ _ (Nat.le_refl _), ?_⟩
      exact (((K1.out.bel.setCell (by show w.heap.size ≤ w.heap.size + 3; omega) _).setCell (by show w.heap.size ≤ w.heap.size + 3; omega) _).setCell (by show w.heap.size ≤ w.heap.size + 3; omega) _)

end Go.Proofs.Ytnbgpeoceejolab
