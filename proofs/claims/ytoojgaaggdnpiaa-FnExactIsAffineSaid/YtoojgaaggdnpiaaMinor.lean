/-
  MinorOf of the model and of the program.
-/
import Derived.Test.YtoojgaaggdnpiaaProjOp
import Derived.Test.YtoojgaaggdnpiaaAtP
import Derived.Test.YtoojgaaggdnpiaaDepends
namespace Go.Proofs.Ytoojgaaggdnpiaa
open Go.RowKit

/-- The value of a list with a number at some places. -/
def minR (s m : Nat) (tab ps : List Int) (i : Nat) : Int := intN tab (codeN s (mapped (digs s m i) ps))

set_option linter.unusedSimpArgs false in
set_option maxHeartbeats 2000000 in
set_option maxRecDepth 100000 in
theorem tableOf (s r : Nat) (a : Option Addr) (n c : Nat) (tab : List Int) (w : World) (h : RowAt w (.slice a n c) tab) (ho : OpOk s r tab) :
    Calls Try.prog 126 #[.int .i64 s, .agg #[.int .i64 r, .slice a n c]] w (MadeTab w s r tab.length (intN tab)) := by
  obtain ⟨hs, har, htab⟩ := ho
  have h1 : 1 ≤ s := by have := hs.1; omega
  have h2 : s ≤ 4 := by have := hs.2; omega
  have hr1 : 1 ≤ r := by have := har.1; omega
  have hr3 : r ≤ 3 := by have := har.2; omega
  have hlen : tab.length = s ^ r := by have := htab.1; simp only [Int.toNat_natCast] at this; omega
  have h64 : tab.length ≤ 64 := by rw [hlen]; exact (pow_le3 h1 h2 hr3).1
  have hpos : 0 < tab.length := by rw [hlen]; exact (pow_le3 h1 h2 hr3).2
  obtain ⟨b9, off, rfl, rfl, hc0⟩ := SlAt.some_of h 0 hpos
  have HLEN := Lib.hid hlen.symm
  have HTB : Hid (∀ k, k < tab.length → 0 ≤ intN tab k ∧ intN tab k < s) := Lib.hid htab.2
  have HR0 : Hid (Box 173 _ (w.heap.size + 1) #[.int .i64 0, .int .i64 0, .slice none 0 0]) := Lib.hid (by
    have h := Box.new 173 (w.alloc (.cells #[.int .i64 r, .slice (some ⟨b9, off, none⟩) tab.length c] 32)) #[.int .i64 0, .int .i64 0, .slice none 0 0]
    rwa [World.size_alloc] at h)
  have K0 := Lib.hid ((((Kept.start w).read (lives_row _ _) h).box w.heap.size rfl (.int .i64 r) (.slice (some ⟨b9, off, none⟩) tab.length c) 32).below ((Below.refl _ _).alloc (Nat.le_refl _) (.cells #[.int .i64 0, .int .i64 0, .slice none 0 0] 173)))
  have HRW0 := Lib.hid h
  clear hs har htab hlen hc0 h hpos
  have cd0 := K0.out.c 0 rfl
  go_enter Try.func126, Try.ntmps126
  go_wp2_with fail
  refine (newTable s r tab.length h1 h2 hr3 HLEN.out _).mono ?_
  rintro e w2 ⟨b, F0, rfl, hT, -, hb0, hb2⟩
  have hb1 : w.heap.size + 1 < b := by have := hb0; simp at this; omega
  have hb3 : b < w2.heap.size := hT.lt
  have HT0 := Lib.hid hT
  have HR2 := Lib.hid (HR0.out.below hb2)
  have K2 := Lib.hid (K0.out.below hb2)
  have HBX0 := Lib.hid (Box.new 173 w2 #[.int .i64 s, .int .i64 r, .slice (some ⟨b, 0, none⟩) tab.length tab.length])
  have cd1 := K2.out.c 1 rfl
  have cd1a := below_cell ((Below.refl w2.heap.size w2).alloc (Nat.le_refl _) (.cells #[.int .i64 s, .int .i64 r, .slice (some ⟨b, 0, none⟩) tab.length tab.length] 173)) cd1
  clear hT hb0 hb2 cd0 cd1
  go_wp2
  clear cd1a
  go_loopw [15] (fun i wr => ∃ (k : Nat) (G : Nat → Int), k ≤ tab.length ∧ i = .int .i64 k ∧ TabAt wr b G ∧ (∀ j, j < k → G j = intN tab j) ∧ Box 173 wr w2.heap.size #[.int .i64 s, .int .i64 r, .slice (some ⟨b, 0, none⟩) tab.length tab.length] ∧ Box 173 wr (w.heap.size + 1) #[.int .i64 0, .int .i64 0, .slice none 0 0] ∧ Below w.heap.size w wr) (fun i _ => tab.length - (intOf i).toNat)
  case atStart =>
    have hal := (Below.refl w2.heap.size w2).alloc (Nat.le_refl _) (.cells #[.int .i64 s, .int .i64 r, .slice (some ⟨b, 0, none⟩) tab.length tab.length] 173)
    exact ⟨0, F0, Nat.zero_le _, rfl, HT0.out.below hal, fun j hj => absurd hj (by omega), HBX0.out, HR2.out.below hal, (K2.out.below hal).bel⟩
  case round =>
    obtain ⟨k, G, hk, rfl, hT, hG, hbx, hb0, hbel⟩ := hrel
    have HT := Lib.hid hT
    have HFF := Lib.hid hG
    have HBX := Lib.hid hbx
    have HB0 := Lib.hid hb0
    have HW := Lib.hid hbel
    clear hT hG hbx hb0 hbel
    by_cases hlt : k < tab.length
    · have hlt' : (k : Int) < (tab.length : Int) := by omega
      have c0 := HBX.out.c 2 rfl
      have hx := SlAt.cell_of (HRW0.out.below HW.out) k hlt
      have ct := HT.out.c k (by omega)
      have ft := HT.out.free k
      obtain ⟨hd0, hd1⟩ := HTB.out k hlt
      have hwr : IntKind.u8.wrap (intN tab k) = intN tab k := wrap8_in hd0 (by omega)
      have HBX' := Lib.hid (HBX.out.other (a := ⟨b, k, none⟩) (show w2.heap.size ≠ b by omega) (.int .u8 (intN tab k)))
      have HB0' := Lib.hid (HB0.out.other (a := ⟨b, k, none⟩) (show w.heap.size + 1 ≠ b by omega) (.int .u8 (intN tab k)))
      have HW' := Lib.hid (HW.out.setCell (p := ⟨b, k, none⟩) (by show w.heap.size ≤ b; omega) (.int .u8 (intN tab k)))
      have HTS := Lib.hid (HT.out.set k (intN tab k))
      go_wp2
      go_roundw
      case rel => exact ⟨k + 1, _, by omega, by go_num, HTS.out, fun j hj => by
        by_cases hjk : j = k
        · subst hjk; simp
        · simp only [hjk, if_false]; exact HFF.out j (by omega), HBX'.out, HB0'.out, HW'.out⟩
      case measure => simp [intOf]; omega
    · obtain rfl : k = tab.length := by omega
      have d0 := HBX.out.c 0 rfl
      have d1 := HBX.out.c 1 rfl
      have d2 := HBX.out.c 2 rfl
      have e0 := HB0.out.c 0 rfl
      have e1 := HB0.out.c 1 rfl
      have e2 := HB0.out.c 2 rfl
      have f0 := HB0.out.free 0
      have f1 := HB0.out.free 1
      have f2 := HB0.out.free 2
      go_wp2
      refine bodyPost_ret (v := .agg #[.int .i64 s, .int .i64 r, .slice (some ⟨b, 0, none⟩) tab.length tab.length]) (by simp [results, Try.results126, go_sem, e0, e1, e2]) rfl ⟨b, G, rfl, ?_, HFF.out, by omega, ?_⟩
      · exact ((HT.out.stored (by show b ≠ w.heap.size + 1; omega) _).stored (by show b ≠ w.heap.size + 1; omega) _).stored (by show b ≠ w.heap.size + 1; omega) _
      · exact ((HW.out.setCell (by show w.heap.size ≤ w.heap.size + 1; omega) _).setCell (by show w.heap.size ≤ w.heap.size + 1; omega) _).setCell (by show w.heap.size ≤ w.heap.size + 1; omega) _

/-- What MinorOf answers. -/
def MinorOfIs (size ar : Int) (tab : List Int) (arity : Int) (ps : List Int) (x : Int) (t : List Int) (cd : Int) : Prop := OpAns (OpOk size ar tab) (In13 arity ∧ TupP arity ar ps) arity (rowF (minR size.toNat arity.toNat tab ps) (size.toNat ^ arity.toNat)) x t cd
theorem MinorOfIs.exists (size ar : Int) (tab : List Int) (arity : Int) (ps : List Int) : ∃ x t cd, MinorOfIs size ar tab arity ps x t cd := OpAns.exists _ _ _ _
theorem MinorOfIs.small {size ar : Int} {tab : List Int} {arity : Int} {ps : List Int} {x : Int} {t : List Int} {cd : Int} (h : MinorOfIs size ar tab arity ps x t cd) : t.length ≤ 1048576 :=
  OpAns.small h fun h1 h2 => by
    have a := h1.1.1; have b := h1.1.2; have c := h2.1.2
    have := (pow_le3 (s := size.toNat) (r := arity.toNat) (by omega) (by omega) (by omega)).1
    rw [rowF_len]; omega


end Go.Proofs.Ytoojgaaggdnpiaa
