/-
  The places on which an operation depends: DependsOn of the program and of the model.
-/
import Derived.Test.YtpkmdieaifggoaaDepM
import Derived.Test.YtpkmdieaifggoaaLDigits
import Derived.Test.YtpkmdieaifggoaaApplyOp
import Derived.Test.YtpkmdieaifggoaaGrow
namespace Go.Proofs.Ytpkmdieaifggoaa
open Go.RowKit

/-- What DependsOn answers. -/
def DependsOnIs (size ar : Int) (tab : List Int) (zs : List Int) (cd : Int) : Prop :=
  (¬ OpOk size ar tab ∧ zs = [] ∧ cd = 1) ∨ (OpOk size ar tab ∧ zs = depRow size.toNat ar.toNat tab ar.toNat ∧ cd = 0)
theorem DependsOnIs.exists (size ar : Int) (tab : List Int) : ∃ zs cd, DependsOnIs size ar tab zs cd := by
  by_cases h : OpOk size ar tab
  · exact ⟨_, _, .inr ⟨h, rfl, rfl⟩⟩
  · exact ⟨_, _, .inl ⟨h, rfl, rfl⟩⟩
theorem DependsOnIs.small {size ar : Int} {tab : List Int} {zs : List Int} {cd : Int} (h : DependsOnIs size ar tab zs cd) : zs.length ≤ 1048576 := by
  rcases h with ⟨_, rfl, _⟩ | ⟨ho, rfl, _⟩
  · simp
  · have := depRow_len size.toNat ar.toNat tab ar.toNat
    have := ho.2.1.2
    omega

/-- A row of its own, and a code. -/
def MadeRow2 (w : World) (zs : List Int) (cd : Int) (e : Ending) (w' : World) : Prop :=
  ∃ a n c, e = .returned (.tuple #[.slice a n c, .int .i64 cd]) ∧ OwnRowE w' w.heap.size w'.heap.size (.slice a n c) zs ∧ Below w.heap.size w w'

theorem info_int8 : (Try.prog.info? 2).map (fun i => (i.zero, i.size, i.bytes)) = some (some (.int .i64 0), 1, 8) := by kernel_rfl

theorem SlAt.cell_of {w : World} {b off n c : Nat} {xs : List Int} (h : RowAt w (.slice (some ⟨b, off, none⟩) n c) xs) (k : Nat) (hk : k < xs.length) : w.cell? ⟨b, off + k, none⟩ = some (.int .i64 (intN xs k)) := by
  obtain ⟨b', off', e, _, hc⟩ := SlAt.some_of h k hk
  simp only [Option.some.injEq, Addr.mk.injEq, and_true] at e
  obtain ⟨rfl, rfl⟩ := e
  exact hc

/-- Numbers of a list and of a cleared one. -/
theorem clear_facts (s r j k m : Nat) (hm : m = s ^ (r - 1 - k)) :
    ((j : Int) / (m : Int)) % (s : Int) = (digN s r j k : Int) ∧ 0 ≤ (j : Int) / (m : Int) ∧ (j : Int) / (m : Int) ≤ j ∧ (digN s r j k : Int) * (m : Int) ≤ j ∧ 0 ≤ (digN s r j k : Int) * (m : Int) ∧ (j : Int) - (digN s r j k : Int) * (m : Int) = (cleared s r j k : Int) := by
  have hd := dig_part s r j k
  rw [← hm] at hd
  have hc : cleared s r j k = j - digN s r j k * m := by unfold cleared; rw [← hm]
  refine ⟨?_, Int.ediv_nonneg (by omega) (by omega), ?_, ?_, Int.mul_nonneg (by omega) (by omega), ?_⟩
  · unfold digN
    rw [← hm, Int.natCast_emod, Int.natCast_ediv]
  · rw [← Int.natCast_ediv]
    have := Nat.div_le_self j m
    omega
  · rw [← Int.natCast_mul]
    omega
  · rw [hc, ← Int.natCast_mul]
    omega

set_option maxHeartbeats 4000000 in
set_option maxRecDepth 100000 in
theorem implDependsOn (size : Int) (ar : Int) (a : Option Addr) (n c : Nat) (tab : List Int) (zs : List Int) (cd : Int) (w : World) (h : RowAt w (.slice a n c) tab) (hi : DependsOnIs size ar tab zs cd) :
    Calls Try.prog 40 #[.int .i64 size, .agg #[.int .i64 ar, .slice a n c]] w (MadeRow2 w zs cd) := by
  obtain ⟨i0, hi0, hz0, hz1, hz2⟩ := info_parts info_int8
  have K0 := Lib.hid (((Kept.start w).read (lives_row _ _) h).box w.heap.size rfl (.int .i64 ar) (.slice a n c) 27)
  clear h
  rcases hi with ⟨ho, rfl, rfl⟩ | ⟨ho, rfl, rfl⟩
  · have HO := Lib.hid (Tells.no ho)
    clear ho
    go_enter Try.func40, Try.ntmps40
    go_wp2_with fail
    refine (implValidOp _ _ _ _ _ _ false _ (K0.out.r 0 rfl :) HO.out).mono ?_
    rintro e w1 ⟨rfl, hb1⟩
    have KE := Lib.hid (K0.out.below hb1)
    clear hb1
    go_wp2
    go_ret2
    exact ⟨_, _, _, rfl, OwnRowE.nil _ _ _ (Nat.le_refl _), KE.out.bel⟩
  · have HO := Lib.hid (Tells.yes ho)
    obtain ⟨hs, har, htab⟩ := ho
    obtain ⟨s, rfl⟩ : ∃ s : Nat, size = s := ⟨size.toNat, by have := hs.1; omega⟩
    obtain ⟨r, rfl⟩ : ∃ r : Nat, ar = r := ⟨ar.toNat, by have := har.1; omega⟩
    have hs1 : 1 ≤ s := by have := hs.1; omega
    have hs2 : s ≤ 4 := by have := hs.2; omega
    have hr1 : 1 ≤ r := by have := har.1; omega
    have hr2 : r ≤ 4 := by have := har.2; omega
    have hlen : tab.length = s ^ r := by have := htab.1; simp only [Int.toNat_natCast] at this; omega
    simp only [Int.toNat_natCast]
    have hpos : 0 < tab.length := by rw [hlen]; exact (pow_le4 hs1 hs2 r hr2).2
    obtain ⟨b, off, rfl, rfl, -⟩ := SlAt.some_of (K0.out.row 0 rfl) 0 hpos
    clear hs har htab hpos
    go_enter Try.func40, Try.ntmps40
    have HLEN := Lib.hid hlen
    clear hlen
    go_wp2_with fail
    refine (implValidOp _ _ _ _ _ _ true _ (K0.out.r 0 rfl :) HO.out).mono ?_
    rintro e w1 ⟨rfl, hb1⟩
    have K1 := Lib.hid (K0.out.below hb1)
    have cc0 := K1.out.c 0 rfl
    have cc1 := K1.out.c 1 rfl
    clear hb1
    go_wp2_with fail
    refine (tupleCount s r hs1 hs2 hr2 _).mono ?_
    rintro e w2 ⟨rfl, rfl⟩
    go_wp2
    go_loopw [6, 7, 22] (fun v wt i wr => ∃ (k : Nat) (a' : Option Addr) (n' c' m : Nat), k ≤ r ∧ i = .int .i64 k ∧ m = s ^ (r - k) ∧ wt = .int .i64 m ∧ v = .slice a' n' c' ∧ wr.ownsRow w1.heap.size 2 1 (.slice a' n' c') (depRow s r tab k).length ((depRow s r tab k).map (Value.int .i64)) ∧ Below w1.heap.size w1 wr) (fun _ _ i _ => r - (intOf i).toNat)
    case atStart => exact ⟨0, none, 0, 0, s ^ r, Nat.zero_le _, rfl, rfl, rfl, rfl, World.ownsRow_nil _ _ _ 1, Below.refl _ _⟩
    case round =>
      obtain ⟨k, a', n', c', m, hk, rfl, hm, rfl, rfl, hown, hbel⟩ := hrel
      obtain ⟨wo, rfl⟩ : ∃ wo : World, wo = wr := ⟨_, rfl⟩
      by_cases hlt : k < r
      · have hlt' : (k : Int) < (r : Int) := by omega
        have cd0 := below_cell hbel cc0
        have cd1 := below_cell hbel cc1
        have HO1 := Lib.hid hown
        have HB1 := Lib.hid hbel
        obtain ⟨m', hm'⟩ : ∃ m' : Nat, m' = s ^ (r - 1 - k) := ⟨_, rfl⟩
        have hms : m = m' * s := by rw [hm, hm', ← Nat.pow_succ, show (r - 1 - k).succ = r - k by omega]
        have hb256 := pow_le4 hs1 hs2 (r - k) (by omega)
        rw [← hm] at hb256
        have hb257 := pow_le4 hs1 hs2 (r - 1 - k) (by omega)
        rw [← hm'] at hb257
        have hq : (m : Int) / (s : Int) = (m' : Int) := by rw [hms, Int.natCast_mul]; exact Int.mul_ediv_cancel _ (by omega)
        have HM' := Lib.hid hm'
        obtain ⟨hb1, hb2⟩ := hb256
        obtain ⟨hb3, hb4⟩ := hb257
        clear hown hbel hm hm' hms
        go_wp2
        go_loopw [6, 31] (fun v i wi => ∃ j : Nat, j ≤ tab.length ∧ i = .int .i64 j ∧ (∀ q, q < j → intN tab (cleared s r q k) = intN tab q) ∧ v = .slice a' n' c' ∧ wi = wo) (fun _ i _ => tab.length - (intOf i).toNat)
        case atStart => exact ⟨0, Nat.zero_le _, rfl, fun q hq => absurd hq (Nat.not_lt_zero _), rfl, rfl⟩
        case round =>
          obtain ⟨j, hj, rfl, hall, rfl, rfl⟩ := hrel
          have HALL := Lib.hid hall
          clear hall
          by_cases hjt : j < tab.length
          · have hr := (K1.out.below HB1.out).row 0 rfl
            have hjs : j < s ^ r := by have := HLEN.out; omega
            have hcl : cleared s r j k < tab.length := by have := cleared_lt s r j k hjs; have := HLEN.out; omega
            have hcell := SlAt.cell_of hr j hjt
            have hcell' := SlAt.cell_of hr _ hcl
            obtain ⟨f1, f2, f3, f4, f5, f6⟩ := clear_facts s r j k m' HM'.out
            have hjt' : (j : Int) < (tab.length : Int) := by omega
            have hl256 : tab.length ≤ 256 := by have := (pow_le4 hs1 hs2 r (by omega)).1; have := HLEN.out; omega
            generalize hcc : cleared s r j k = cl at *
            generalize digN s r j k = d at *
            have hcl' : (cl : Int) < (tab.length : Int) := by omega
            have HCC := Lib.hid hcc
            clear hr hjs hcc
            by_cases he : intN tab j = intN tab cl
            · have HE := Lib.hid he
              have hne : (intN tab j != intN tab cl) = false := by simp [he]
              have heq : (intN tab j == intN tab cl) = true := by simp [he]
              clear he
              go_wp2
              go_roundw
              case rel =>
                refine ⟨j + 1, by omega, by go_num, fun q hq => ?_, rfl, by trivial⟩
                by_cases hqj : q = j
                · subst hqj; rw [HCC.out]; exact HE.out.symm
                · exact HALL.out q (by omega)
              case measure => simp [intOf]; omega
            · have hne : (intN tab j != intN tab cl) = true := by simp [he]
              have heq : (intN tab j == intN tab cl) = false := by simp [he]
              have HDEP : Hid (DepP s r tab k) := ⟨j, by have := HLEN.out; omega, by rw [HCC.out]; exact fun h => he h.symm⟩
              have hc1 := cell_one_new wr (.int .i64 k) 2
              have HC1 := Lib.hid hc1
              have hdl := depRow_len s r tab k
              clear he hc1
              go_wp2_with (at_builtin; refine wpList_append_own _ rfl _ _ 22 rfl w1.heap.size 2 i0 (.int .i64 0) 1 8 Try.underlying22 hi0 hz0 hz1 hz2 rfl (by decide) (.slice a' n' c') (depRow s r tab k).length _ rfl (HO1.out.alloc _) ⟨wr.heap.size, 0, none⟩ 1 1 [.int .i64 k] rfl rfl HC1.out (by simp [Value.oneCell']) (by unfold maxLen; omega) (by omega) (by have := HB1.out.size; simp; omega) ?_; intro v' w3 hown' hgrow _; obtain ⟨g', c', rfl⟩ := ownsRow_succ hown'; have HG3 := Lib.hid hown'; have HR3 := Lib.hid hgrow; clear hown' hgrow)
              go_roundw
              case rel =>
                refine ⟨k + 1, _, _, _, m', by omega, by go_num, by rw [HM'.out]; congr 1; omega, rfl, rfl, ?_, ((HB1.out.alloc HB1.out.size _).grown HR3.out (by have := HB1.out.size; simp; omega) (fun q hq => (HO1.out.lt q hq).1))⟩
                rw [depRow_yes HDEP.out, List.map_append, List.length_append]
                exact HG3.out
              case measure => simp [intOf]; omega
          · have HDEP : Hid (¬ DepP s r tab k) := fun ⟨q, hq, hne⟩ => hne (HALL.out q (by have := HLEN.out; omega))
            obtain rfl : j = tab.length := by omega
            go_wp2
            go_roundw
            case rel =>
              refine ⟨k + 1, _, _, _, m', by omega, by go_num, by rw [HM'.out]; congr 1; omega, rfl, rfl, ?_, HB1.out⟩
              rw [depRow_no HDEP.out]
              exact HO1.out
            case measure => simp [intOf]; omega
      · obtain rfl : k = r := by omega
        have HE : Hid (OwnRow wo w1.heap.size (.slice a' n' c') (depRow s k tab k)) := hown
        have HB1 := Lib.hid hbel
        clear hown hbel hm
        go_wp2
        go_ret2
        exact ⟨_, _, _, rfl, (HE.out.full).mono K1.out.bel.size, (K1.out.below HB1.out).bel⟩

theorem OwnRow.cell_of {w : World} {B g n c : Nat} {xs : List Int} (h : OwnRow w B (.slice (some ⟨g, 0, none⟩) n c) xs) (k : Nat) (hk : k < xs.length) : w.cell? ⟨g, k, none⟩ = some (.int .i64 (intN xs k)) := by
  have := SlAt.cell_of h.rowAt k hk
  rwa [Nat.zero_add] at this

theorem OwnRow.free {w : World} {B g n c : Nat} {xs : List Int} (h : OwnRow w B (.slice (some ⟨g, 0, none⟩) n c) xs) (k : Nat) : w.frozen? ⟨g, k, none⟩ = false := by
  obtain rfl : n = xs.length := by
    rcases h.rowIn with ⟨h1, _⟩ | ⟨_, _, h1, _⟩
    · cases h1
    · simp only [Value.slice.injEq] at h1; exact h1.2.1
  exact World.ownsRow.frozenAt h k

theorem digs_set_tup (s r j k : Nat) (h1 : 1 ≤ s) : TupP s r ((digs s r j).set k 0) := by
  have h := digs_tup s r j h1
  refine ⟨by rw [List.length_set]; exact h.1, fun i hi => ?_⟩
  rw [List.length_set] at hi
  by_cases hk : k < (digs s r j).length
  · rw [intN_set _ _ _ hk]
    by_cases hik : i = k
    · rw [if_pos hik]; omega
    · rw [if_neg hik]; exact h.2 i hi
  · rw [List.set_eq_of_length_le (by omega)]
    exact h.2 i hi

theorem OwnRow.set {w : World} {B g c : Nat} {xs : List Int} {n : Nat} (h : OwnRow w B (.slice (some ⟨g, 0, none⟩) n c) xs) (k : Nat) (x : Int) : OwnRow (w.setCell ⟨g, k, none⟩ (.int .i64 x)) B (.slice (some ⟨g, 0, none⟩) n c) (xs.set k x) := by
  obtain rfl : n = xs.length := by
    rcases h.rowIn with ⟨h1, _⟩ | ⟨_, _, h1, _⟩
    · cases h1
    · simp only [Value.slice.injEq] at h1; exact h1.2.1
  have := (World.ownsRow.stored h k (.int .i64 x)).1
  unfold OwnRow
  rw [List.length_set, List.map_set]
  exact this

theorem l02ValueN (size ar : Int) (pb po : Nat) (tab : List Int) (v : Value) (xs : List Int) (m : Nat) (w : World) (h : OpAt w pb po ar tab) (hv : RowAt w v xs) (ho : OpOk size ar tab) (ht : TupP size ar xs) (hm : codeN size xs = m) :
    Calls Try.prog 71 #[.int .i64 size, .pointer (some ⟨pb, po, none⟩), v] w fun e w' => e = .returned (.int .i64 (intN tab m)) ∧ QW w w' := hm ▸ l02Value size ar pb po tab v xs w h hv ho ht

set_option maxHeartbeats 4000000 in
set_option maxRecDepth 100000 in
theorem specDependsOn (size : Int) (ar : Int) (a : Option Addr) (n c : Nat) (tab : List Int) (zs : List Int) (cd : Int) (w : World) (h : RowAt w (.slice a n c) tab) (hi : DependsOnIs size ar tab zs cd) :
    Calls Try.prog 39 #[.int .i64 size, .agg #[.int .i64 ar, .slice a n c]] w (MadeRow2 w zs cd) := by
  obtain ⟨i0, hi0, hz0, hz1, hz2⟩ := info_parts info_int8
  have HP := Lib.hid (OpAt.new w ar a n c tab 27 h)
  have K0 := Lib.hid (((Kept.start w).read (lives_row _ _) h).box w.heap.size rfl (.int .i64 ar) (.slice a n c) 27)
  clear h
  rcases hi with ⟨ho, rfl, rfl⟩ | ⟨ho, rfl, rfl⟩
  · have HO := Lib.hid (Tells.no ho)
    clear ho
    go_enter Try.func39, Try.ntmps39
    go_wp2_with fail
    refine (l02Ok _ _ _ _ _ false _ HP.out HO.out).mono ?_
    rintro e w1 ⟨rfl, hq1⟩
    have KE := Lib.hid (K0.out.below hq1.bel)
    clear hq1
    go_wp2
    go_ret2
    exact ⟨_, _, _, rfl, ((ownRow_lit w1 w1.heap.size [] (Nat.le_refl _) (by simp)).full).mono KE.out.bel.size, (KE.out.below ((Below.refl _ _).alloc (Nat.le_refl _) _)).bel⟩
  · have HO := Lib.hid (Tells.yes ho)
    have HOO := Lib.hid ho
    obtain ⟨hs, har, htab⟩ := ho
    obtain ⟨s, rfl⟩ : ∃ s : Nat, size = s := ⟨size.toNat, by have := hs.1; omega⟩
    obtain ⟨r, rfl⟩ : ∃ r : Nat, ar = r := ⟨ar.toNat, by have := har.1; omega⟩
    have hs1 : 1 ≤ s := by have := hs.1; omega
    have hs2 : s ≤ 4 := by have := hs.2; omega
    have hr1 : 1 ≤ r := by have := har.1; omega
    have hr2 : r ≤ 4 := by have := har.2; omega
    have hlen : tab.length = s ^ r := by have := htab.1; simp only [Int.toNat_natCast] at this; omega
    have hl256 : tab.length ≤ 256 := by rw [hlen]; exact (pow_le4 hs1 hs2 r hr2).1
    simp only [Int.toNat_natCast]
    have hpos : 0 < tab.length := by rw [hlen]; exact (pow_le4 hs1 hs2 r hr2).2
    obtain ⟨b, off, rfl, rfl, -⟩ := SlAt.some_of (K0.out.row 0 rfl) 0 hpos
    clear hs har htab hpos
    go_enter Try.func39, Try.ntmps39
    have HLEN := Lib.hid hlen
    clear hlen
    go_wp2_with fail
    refine (l02Ok _ _ _ _ _ true _ HP.out HO.out).mono ?_
    rintro e w1 ⟨rfl, hq1⟩
    have K1 := Lib.hid (K0.out.below hq1.bel)
    have HP1 := Lib.hid (HP.out.below hq1.bel)
    have cc0 := K1.out.c 0 rfl
    have cc1 := K1.out.c 1 rfl
    clear hq1
    go_wp2
    go_loopw [6, 7] (fun v i wr => ∃ (k : Nat) (a' : Option Addr) (n' c' : Nat), k ≤ r ∧ i = .int .i64 k ∧ v = .slice a' n' c' ∧ wr.ownsRow w1.heap.size 2 1 (.slice a' n' c') (depRow s r tab k).length ((depRow s r tab k).map (Value.int .i64)) ∧ Below w1.heap.size w1 wr) (fun _ i _ => r - (intOf i).toNat)
    case atStart => exact ⟨0, _, _, _, Nat.zero_le _, rfl, rfl, ownRow_lit w1 w1.heap.size [] (Nat.le_refl _) (by simp), (Below.refl _ _).alloc (Nat.le_refl _) _⟩
    case round =>
      obtain ⟨k, a', n', c', hk, rfl, rfl, hown, hbel⟩ := hrel
      have cd0 := below_cell hbel cc0
      have HO1 := Lib.hid hown
      have HB1 := Lib.hid hbel
      clear hown hbel
      by_cases hlt : k < r
      · have hlt' : (k : Int) < (r : Int) := by omega
        obtain ⟨wo, rfl⟩ : ∃ wo : World, wo = wr := ⟨_, rfl⟩
        go_wp2
        go_loopw [6, 8] (fun v i wr => ∃ j : Nat, j ≤ tab.length ∧ i = .int .i64 j ∧ (∀ q, q < j → intN tab (cleared s r q k) = intN tab q) ∧ v = .slice a' n' c' ∧ wr.ownsRow w1.heap.size 2 1 (.slice a' n' c') (depRow s r tab k).length ((depRow s r tab k).map (Value.int .i64)) ∧ Below w1.heap.size w1 wr) (fun _ i _ => tab.length - (intOf i).toNat)
        case atStart => exact ⟨0, Nat.zero_le _, rfl, fun q hq => absurd hq (Nat.not_lt_zero _), rfl, HO1.out, HB1.out⟩
        case round =>
          obtain ⟨j, hj, rfl, hall, rfl, hown, hbel⟩ := hrel
          clear cd0 HO1 HB1
          have HALL := Lib.hid hall
          have HO2 := Lib.hid hown
          have HB2 := Lib.hid hbel
          have cd0 := below_cell hbel cc0
          have cd1 := below_cell hbel cc1
          clear hall hown hbel
          by_cases hjt : j < tab.length
          · have hjs : j < s ^ r := by have := HLEN.out; omega
            have HCL := Lib.hid (digs_cleared s r j k hjs hlt)
            have HTU := Lib.hid (digs_set_tup s r j k hs1)
            have hjt' : (j : Int) < (tab.length : Int) := by omega
            clear hjs
            go_wp2_with fail
            refine (l01Digits s r j hs1 (by omega) hr2 (by omega) _).mono ?_
            rintro e w2 ⟨a2, c2, rfl, ho2, hb2⟩
            obtain ⟨g2, c2', he2, hg2, hg2', -, -⟩ : ∃ g c', Value.slice a2 r c2 = .slice (some ⟨g, 0, none⟩) r c' ∧ wr.heap.size ≤ g ∧ g < w2.heap.size ∧ True ∧ True := by
              rcases ho2.rowIn with ⟨h1, h2⟩ | ⟨g, c', h1, h2, h3, _, _⟩
              · have := congrArg List.length h2
                rw [digs_len] at this
                simp at this
                omega
              · rw [digs_len] at h1
                exact ⟨g, c', h1, h2, h3, trivial, trivial⟩
            simp only [Value.slice.injEq] at he2
            obtain ⟨rfl, -, rfl⟩ := he2
            have hc2 := OwnRow.cell_of ho2 k (by rw [digs_len]; exact hlt)
            have hf2 := ho2.free k
            have hne2 : ∀ q, (Value.slice a' n' c').ownBlock = some q → q ≠ g2 := fun q hq e => by have := (HO2.out.lt q hq).2; omega
            have HO3 : Hid ((w2.setCell ⟨g2, k, none⟩ (.int .i64 0)).ownsRow w1.heap.size 2 1 (.slice a' n' c') (depRow s r tab k).length ((depRow s r tab k).map (Value.int .i64))) := ownsRow_same (ownsRow_below HO2.out hb2) fun q hq => Below.heap_setCell _ _ _ _ (hne2 q hq)
            have HB3 : Hid (Below w1.heap.size w1 (w2.setCell ⟨g2, k, none⟩ (.int .i64 0))) := ((HB2.out.trans (hb2.mono HB2.out.size)).setCell (by have := HB2.out.size; show w1.heap.size ≤ g2; omega) _)
            have HR3 := Lib.hid (ho2.set k 0).rowAt
            have HP3 := Lib.hid (HP1.out.below HB3.out)
            have HT3 := Lib.hid ((K1.out.below HB3.out).row 0 rfl)
            have hcj := SlAt.cell_of HT3.out j hjt
            have ce1 := below_cell HB3.out cc1
            clear ho2 hne2 cd0 cd1
            go_wp2
            by_cases he : intN tab (cleared s r j k) = intN tab j
            · have HE := Lib.hid he
              have hne : (intN tab (cleared s r j k) != intN tab j) = false := by simp [he]
              have heq : (intN tab (cleared s r j k) == intN tab j) = true := by simp [he]
              clear he
              go_quiet ((go_at_call 71; exact QW.calls (l02ValueN _ _ _ _ _ _ _ _ _ (HP3.out.below (((QW.refl _).drewN _).bel)) (((QW.refl _).drewN _).row HR3.out) HOO.out HTU.out HCL.out)))
              go_wp2
              go_roundw
              case rel =>
                refine ⟨j + 1, by omega, by go_num, fun q hq => ?_, rfl, ownsRow_below HO3.out (((QW.refl _).drewN _).bel), HB3.out.trans (((QW.refl _).drewN _).below _)⟩
                by_cases hqj : q = j
                · subst hqj; exact HE.out
                · exact HALL.out q (by omega)
              case measure => simp [intOf]; omega
            · have hne : (intN tab (cleared s r j k) != intN tab j) = true := by simp [he]
              have heq : (intN tab (cleared s r j k) == intN tab j) = false := by simp [he]
              have HDEP : Hid (DepP s r tab k) := ⟨j, by have := HLEN.out; omega, he⟩
              have hdl := depRow_len s r tab k
              clear he
              go_quiet ((go_at_call 71; exact QW.calls (l02ValueN _ _ _ _ _ _ _ _ _ (HP3.out.below (((QW.refl _).drewN _).bel)) (((QW.refl _).drewN _).row HR3.out) HOO.out HTU.out HCL.out)))
              obtain ⟨w4, hw4⟩ : ∃ w4, (w2.setCell ⟨g2, k, none⟩ (.int .i64 0)).drewN nq = w4 := ⟨_, rfl⟩
              have HO4 := Lib.hid (ownsRow_below HO3.out (((QW.refl _).drewN nq).bel))
              have HB4 := Lib.hid (HB3.out.trans (((QW.refl _).drewN nq).below _))
              rw [hw4] at HO4 HB4
              rw [hw4]
              have hc1 := cell_one_new w4 (.int .i64 k) 2
              have HC1 := Lib.hid hc1
              clear hc1 hw4 HO3 HB3 HR3 HP3 HT3 ce1 hcj
              go_wp2_with (at_builtin; refine wpList_append_own _ rfl _ _ 22 rfl w1.heap.size 2 i0 (.int .i64 0) 1 8 Try.underlying22 hi0 hz0 hz1 hz2 rfl (by decide) (.slice a' n' c') (depRow s r tab k).length _ rfl (HO4.out.alloc _) ⟨w4.heap.size, 0, none⟩ 1 1 [.int .i64 k] rfl rfl HC1.out (by simp [Value.oneCell']) (by unfold maxLen; omega) (by omega) (by have := HB4.out.size; simp; omega) ?_; intro v' w3 hown' hgrow _; obtain ⟨g', c', rfl⟩ := ownsRow_succ hown'; have HG3 := Lib.hid hown'; have HR3 := Lib.hid hgrow; clear hown' hgrow)
              go_roundw
              case rel =>
                refine ⟨k + 1, _, _, _, by omega, by go_num, rfl, ?_, ((HB4.out.alloc HB4.out.size _).grown HR3.out (by have := HB4.out.size; simp; omega) (fun q hq => (HO4.out.lt q hq).1))⟩
                rw [depRow_yes HDEP.out, List.map_append, List.length_append]
                exact HG3.out
              case measure => simp [intOf]; omega
          · have HDEP : Hid (¬ DepP s r tab k) := fun ⟨q, hq, hne⟩ => hne (HALL.out q (by have := HLEN.out; omega))
            obtain rfl : j = tab.length := by omega
            go_wp2
            go_roundw
            case rel =>
              refine ⟨k + 1, _, _, _, by omega, by go_num, rfl, ?_, HB2.out⟩
              rw [depRow_no HDEP.out]
              exact HO2.out
            case measure => simp [intOf]; omega
      · obtain rfl : k = r := by omega
        have HE : Hid (OwnRow wr w1.heap.size (.slice a' n' c') (depRow s k tab k)) := HO1.out
        clear HO1
        go_wp2
        go_ret2
        exact ⟨_, _, _, rfl, (HE.out.full).mono K1.out.bel.size, (K1.out.below HB1.out).bel⟩

end Go.Proofs.Ytpkmdieaifggoaa
