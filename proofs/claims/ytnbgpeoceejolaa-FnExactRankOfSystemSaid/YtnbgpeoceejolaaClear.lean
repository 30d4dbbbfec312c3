/-
  (*elimination).clear of the program.
-/
import Derived.Test.YtnbgpeoceejolaaPRows
import Derived.Test.YtnbgpeoceejolaaReduce
import Derived.Test.YtnbgpeoceejolaaTab
namespace Go.Proofs.Ytnbgpeoceejolaa
open Go.RowKit

theorem Flat.drewN_ {w : World} {g N : Nat} {F : Nat → Int} (h : Flat w g N F) (m : Nat) : Flat (w.drewN m) g N F := h
theorem PRows.drewN_ {w : World} {rb g N n l : Nat} {s : Nat → Nat} {p : Int} {F : Nat → Int} (h : PRows w rb g N n l s p F) (m : Nat) : PRows (w.drewN m) rb g N n l s p F := ⟨h.at_, h.frz, h.flat, h.low, h.lt, h.inj, h.ne, h.fit, h.inn⟩
theorem dividedP (p : Int) (g N fo l c1 : Nat) (t : Int) (F : Nat → Int) (w : World) (hp : PrimeP p) (h : Flat w g N F) (hg : g < w.heap.size) (hl : LowF p F) (htl : 0 ≤ t ∧ t < p) (hfo : fo + l ≤ N) (hN : N ≤ 1000) :
    Calls Try.prog 86 #[modV p, .slice (some ⟨g, fo, none⟩) l c1, .int .i64 t] w fun e w' => e = .returned (.tuple #[]) ∧ Flat w' g N (scaleF p t F fo l) ∧ Only (fun q => q = g) w w' := by
  rcases hp with rfl | rfl
  · exact divided2 g N fo l c1 t F w h hg hl htl hfo hN
  · exact divided3 g N fo l c1 t F w h hg hl htl hfo hN
theorem takeAwayP (p : Int) (g N fo ro l c1 c2 : Nat) (t : Int) (F : Nat → Int) (w : World) (hp : PrimeP p) (h : Flat w g N F) (hl : LowF p F) (htl : 0 ≤ t ∧ t < p) (hfo : fo + l ≤ N) (hro : ro + l ≤ N) (hdis : fo + l ≤ ro ∨ ro + l ≤ fo) (hN : N ≤ 1000) :
    Calls Try.prog 146 #[modV p, .slice (some ⟨g, fo, none⟩) l c1, .slice (some ⟨g, ro, none⟩) l c2, .int .i64 t] w fun e w' => e = .returned (.tuple #[]) ∧ Flat w' g N (takeF p t F fo ro l) ∧ Only (fun q => q = g) w w' := by
  rcases hp with rfl | rfl
  · exact takeAway2 g N fo ro l c1 c2 t F w h hl htl hfo hro hdis hN
  · exact takeAway3 g N fo ro l c1 c2 t F w h hl htl hfo hro hdis hN

set_option linter.unusedSimpArgs false in
set_option maxHeartbeats 4000000 in
set_option maxRecDepth 100000 in
theorem clearC (eb u rb rc n d c g N l : Nat) (s : Nat → Nat) (p : Int) (Fd : Nat → Int) (w : World) (hb : Box 114 w eb #[modV p, .int .i64 (u : Int), .slice (some ⟨rb, 0, none⟩) n rc, .int .i64 (d : Int)]) (h : PRows w rb g N n l s p Fd) (hp : PrimeP p) (heg : eb ≠ g) (hd : d < n) (hc : c < l) (hN : N ≤ 1000) (hn : n ≤ 1000) (hrb : rb < w.heap.size) :
    Calls Try.prog 188 #[.pointer (some ⟨eb, 0, none⟩), .int .i64 (c : Int)] w fun e w' => ∃ F', e = .returned (.tuple #[]) ∧ PRows w' rb g N n l s p F' ∧ (∀ i, i < n → rowAtF F' s l i = clearK p (rowAtF Fd s l) d c n i) ∧ Only (fun q => q = g) w w' := by
  have HBX0 := Lib.hid hb
  have HPR0 := Lib.hid h
  have HP := Lib.hid hp
  have heb := hb.lt
  have e2 := hb.c 2 rfl
  have e3 := hb.c 3 rfl
  have ed := h.at_ d hd
  have hdn : (d : Int) < (n : Int) := by omega
  have hcl : (c : Int) < (l : Int) := by omega
  clear hb h hp
  go_enter Try.func188, Try.ntmps188
  go_wp2_with fail
  refine wp_region_noPanic ?_
  refine wp_region_late (S := (fun w' => w'.cell? ⟨eb, 2, none⟩ = some (.slice (some ⟨rb, 0, none⟩) n rc) ∧ w'.cell? ⟨eb, 3, none⟩ = some (.int .i64 (d : Int)) ∧ w'.cell? ⟨rb, d, none⟩ = some (.slice (some ⟨g, s d * l, none⟩) l l))) [10] (by kernel_rfl) ?_ (fun hHeld => ?_)
  · exact ⟨e2, e3, ed⟩
  refine wpAnyL_free (i := 0) (v := ?_) (some 7) rfl rfl (by kernel_rfl) (by kernel_rfl) (by kernel_rfl) (by decide) (fun _ _ _ h => h) (Or.inl ⟨by rfl, ?_⟩) (fun h0 => by assumption) ?_
  rotate_left
  · intro wS
    go_simp
    try with_reducible rfl
  try simp only [Act.put, List.setIfInBounds_toArray, List.set_cons_zero, List.set_cons_succ]
  refine wpAnyL_free (i := 1) (v := ?_) (some 8) rfl rfl (by kernel_rfl) (by kernel_rfl) (by kernel_rfl) (by decide) (fun _ _ _ h => h) (Or.inl ⟨by rfl, ?_⟩) (fun h0 => by assumption) ?_
  rotate_left
  · intro wS
    go_simp
    try with_reducible rfl
  try simp only [Act.put, List.setIfInBounds_toArray, List.set_cons_zero, List.set_cons_succ]
  refine wpAnyL_free (i := 2) (v := ?_) (some 9) rfl rfl (by kernel_rfl) (by kernel_rfl) (by kernel_rfl) (by decide) (fun _ _ _ h => h) (Or.inl ⟨by rfl, ?_⟩) (fun h0 => by assumption) ?_
  rotate_left
  · intro wS
    go_simp
    try with_reducible rfl
  try simp only [Act.put, List.setIfInBounds_toArray, List.set_cons_zero, List.set_cons_succ]
  refine wpAnyL_take (i := 3) (v := ?_) (some 10) rfl rfl (by kernel_rfl) (by kernel_rfl) (by kernel_rfl) (by kernel_rfl) (by kernel_rfl) (fun _ _ _ h => h) (Or.inl ⟨by rfl, ?_⟩) (by assumption) ?_
  rotate_left
  · intro wS hSw
    try dsimp only at hSw
    go_simp
    try with_reducible rfl
  try simp only [Act.put, List.setIfInBounds_toArray, List.set_cons_zero, List.set_cons_succ]
  refine wpAnyL_free (i := 4) (v := ?_) (some 11) rfl rfl (by kernel_rfl) (by kernel_rfl) (by kernel_rfl) (by decide) (fun _ _ _ h => h) (Or.inl ⟨by rfl, ?_⟩) (fun h0 => by assumption) ?_
  rotate_left
  · intro wS
    go_simp
    try with_reducible rfl
  try simp only [Act.put, List.setIfInBounds_toArray, List.set_cons_zero, List.set_cons_succ]
  refine wpAnyL_free (i := 5) (v := ?_) (some 12) rfl rfl (by kernel_rfl) (by kernel_rfl) (by kernel_rfl) (by decide) (fun _ _ _ h => h) (Or.inl ⟨by rfl, ?_⟩) (fun h0 => by assumption) ?_
  rotate_left
  · intro wS
    go_simp
    try with_reducible rfl
  try simp only [Act.put, List.setIfInBounds_toArray, List.set_cons_zero, List.set_cons_succ]
  refine wpAnyL_free (i := 6) (v := ?_) (some 13) rfl rfl (by kernel_rfl) (by kernel_rfl) (by kernel_rfl) (by decide) (fun _ _ _ h => h) (Or.inl ⟨by rfl, ?_⟩) (fun h0 => by assumption) ?_
  rotate_left
  · intro wS
    go_simp
    try with_reducible rfl
  try simp only [Act.put, List.setIfInBounds_toArray, List.set_cons_zero, List.set_cons_succ]
  refine wpAnyL_take (i := 7) (v := ?_) (some 14) rfl rfl (by kernel_rfl) (by kernel_rfl) (by kernel_rfl) (by kernel_rfl) (by kernel_rfl) (fun _ _ _ h => h) (Or.inl ⟨by rfl, ?_⟩) (by assumption) ?_
  rotate_left
  · intro wS hSw
    try dsimp only at hSw
    go_simp
    try with_reducible rfl
  try simp only [Act.put, List.setIfInBounds_toArray, List.set_cons_zero, List.set_cons_succ]
  refine wpAnyL_free (i := 8) (v := ?_) (some 15) rfl rfl (by kernel_rfl) (by kernel_rfl) (by kernel_rfl) (by decide) (fun _ _ _ h => h) (Or.inl ⟨by rfl, ?_⟩) (fun h0 => by assumption) ?_
  rotate_left
  · intro wS
    go_simp
    try with_reducible rfl
  try simp only [Act.put, List.setIfInBounds_toArray, List.set_cons_zero, List.set_cons_succ]
  refine wpAnyL_take (i := 9) (v := ?_) (some 16) rfl rfl (by kernel_rfl) (by kernel_rfl) (by kernel_rfl) (by kernel_rfl) (by kernel_rfl) (fun _ _ _ h => h) (Or.inl ⟨by rfl, ?_⟩) (by assumption) ?_
  rotate_left
  · intro wS hSw
    try dsimp only at hSw
    go_simp
    try with_reducible rfl
  try simp only [Act.put, List.setIfInBounds_toArray, List.set_cons_zero, List.set_cons_succ]
  refine wpAnyL_ready (rs := [10]) (by kernel_rfl) (by simp) ?_
  refine AllReadyL.last rfl (by kernel_rfl) (fun K hK => ?_) AllReadyL.nil
  go_simp
  refine hK.out _ _ ?_
  clear hK K
  try simp only [Act.put, List.setIfInBounds_toArray, List.set_cons_zero, List.set_cons_succ]
  refine wpAnyL_done (by kernel_rfl) ?_ _
  refine NoPanic.normal ?_
  clear hHeld
  obtain ⟨w1, hw1⟩ : ∃ w1, w.drew = w1 := ⟨_, rfl⟩
  have HPR : Hid (PRows w1 rb g N n l s p Fd) := Lib.hid (by rw [← hw1]; exact HPR0.out.drewN_ 1)
  have HBX : Hid (Box 114 w1 eb #[modV p, .int .i64 (u : Int), .slice (some ⟨rb, 0, none⟩) n rc, .int .i64 (d : Int)]) := Lib.hid (by rw [← hw1]; exact HBX0.out)
  have HO1 : Hid (Only (fun q => q = g) w w1) := Lib.hid (by rw [← hw1]; exact (Only.refl _ _).drew)
  have hrb1 : rb < w1.heap.size := by rw [← hw1]; exact hrb
  have heb1 : eb < w1.heap.size := by rw [← hw1]; exact heb
  rw [show w.drew = w1 from hw1]
  clear hw1 e2 e3 ed
  have x0 := HBX.out.c 0 rfl
  have x1 := HPR.out.flat.1 (s d * l + c) (by have := HPR.out.fits hd; omega)
  obtain ⟨x, hx⟩ : ∃ x, Fd (s d * l + c) = x := ⟨_, rfl⟩
  have hxl := HPR.out.low (s d * l + c)
  rw [hx] at x1 hxl
  have HX := Lib.hid hxl
  have HXE := Lib.hid hx
  have HFL := Lib.hid HPR.out.flat
  have HIN := Lib.hid HPR.out.inn
  have HLW := Lib.hid HPR.out.low
  clear hx hxl
  go_wp2_with fail
  refine wp_region_noPanic ?_
  refine wp_region_late (S := (fun w' => w'.cell? ⟨eb, 0, none⟩ = some (modV p) ∧ w'.cell? ⟨g, s d * l + c, none⟩ = some (.int .i64 x))) [9] (by kernel_rfl) ?_ (fun hHeld => ?_)
  · exact ⟨x0, x1⟩
  refine wpAnyL_free (i := 0) (v := ?_) (some 17) rfl rfl (by kernel_rfl) (by kernel_rfl) (by kernel_rfl) (by decide) (fun _ _ _ h => h) (Or.inl ⟨by rfl, ?_⟩) (fun h0 => by assumption) ?_
  rotate_left
  · intro wS
    go_simp
    try with_reducible rfl
  try simp only [Act.put, List.setIfInBounds_toArray, List.set_cons_zero, List.set_cons_succ]
  refine wpAnyL_free (i := 1) (v := ?_) (some 18) rfl rfl (by kernel_rfl) (by kernel_rfl) (by kernel_rfl) (by decide) (fun _ _ _ h => h) (Or.inl ⟨by rfl, ?_⟩) (fun h0 => by assumption) ?_
  rotate_left
  · intro wS
    go_simp
    try with_reducible rfl
  try simp only [Act.put, List.setIfInBounds_toArray, List.set_cons_zero, List.set_cons_succ]
  refine wpAnyL_free (i := 2) (v := ?_) (some 19) rfl rfl (by kernel_rfl) (by kernel_rfl) (by kernel_rfl) (by decide) (fun _ _ _ h => h) (Or.inl ⟨by rfl, ?_⟩) (fun h0 => by assumption) ?_
  rotate_left
  · intro wS
    go_simp
    try with_reducible rfl
  try simp only [Act.put, List.setIfInBounds_toArray, List.set_cons_zero, List.set_cons_succ]
  refine wpAnyL_take (i := 3) (v := ?_) (some 20) rfl rfl (by kernel_rfl) (by kernel_rfl) (by kernel_rfl) (by kernel_rfl) (by kernel_rfl) (fun _ _ _ h => h) (Or.inl ⟨by rfl, ?_⟩) (by assumption) ?_
  rotate_left
  · intro wS hSw
    try dsimp only at hSw
    go_simp
    try with_reducible rfl
  try simp only [Act.put, List.setIfInBounds_toArray, List.set_cons_zero, List.set_cons_succ]
  refine wpAnyL_free (i := 4) (v := ?_) (some 21) rfl rfl (by kernel_rfl) (by kernel_rfl) (by kernel_rfl) (by decide) (fun _ _ _ h => h) (Or.inl ⟨by rfl, ?_⟩) (fun h0 => by assumption) ?_
  rotate_left
  · intro wS
    go_simp
    try with_reducible rfl
  try simp only [Act.put, List.setIfInBounds_toArray, List.set_cons_zero, List.set_cons_succ]
  refine wpAnyL_free (i := 5) (v := ?_) (some 22) rfl rfl (by kernel_rfl) (by kernel_rfl) (by kernel_rfl) (by decide) (fun _ _ _ h => h) (Or.inl ⟨by rfl, ?_⟩) (fun h0 => by assumption) ?_
  rotate_left
  · intro wS
    go_simp
    try with_reducible rfl
  try simp only [Act.put, List.setIfInBounds_toArray, List.set_cons_zero, List.set_cons_succ]
  refine wpAnyL_free (i := 6) (v := ?_) (some 23) rfl rfl (by kernel_rfl) (by kernel_rfl) (by kernel_rfl) (by decide) (fun _ _ _ h => h) (Or.inl ⟨by rfl, ?_⟩) (fun h0 => by assumption) ?_
  rotate_left
  · intro wS
    go_simp
    try with_reducible rfl
  try simp only [Act.put, List.setIfInBounds_toArray, List.set_cons_zero, List.set_cons_succ]
  refine wpAnyL_free (i := 7) (v := ?_) (some 24) rfl rfl (by kernel_rfl) (by kernel_rfl) (by kernel_rfl) (by decide) (fun _ _ _ h => h) (Or.inl ⟨by rfl, ?_⟩) (fun h0 => by assumption) ?_
  rotate_left
  · intro wS
    go_simp
    try with_reducible rfl
  try simp only [Act.put, List.setIfInBounds_toArray, List.set_cons_zero, List.set_cons_succ]
  refine wpAnyL_take (i := 8) (v := ?_) (some 25) rfl rfl (by kernel_rfl) (by kernel_rfl) (by kernel_rfl) (by kernel_rfl) (by kernel_rfl) (fun _ _ _ h => h) (Or.inl ⟨by rfl, ?_⟩) (by assumption) ?_
  rotate_left
  · intro wS hSw
    try dsimp only at hSw
    go_simp
    try with_reducible rfl
  try simp only [Act.put, List.setIfInBounds_toArray, List.set_cons_zero, List.set_cons_succ]
  refine wpAnyL_ready (rs := [9]) (by kernel_rfl) (by simp) ?_
  refine AllReadyL.last rfl (by kernel_rfl) (fun K hK => ?_) AllReadyL.nil
  go_simp; go_at_call 86; refine (dividedP p g N (s d * l) l l x Fd _ HP.out (HFL.out.drewN_ 1) HIN.out HLW.out HX.out (HPR.out.fits hd) hN).mono ?_; rintro e w4 ⟨rfl, hf4, ho4⟩
  refine hK.out _ _ ?_
  clear hK K
  try simp only [Act.put, List.setIfInBounds_toArray, List.set_cons_zero, List.set_cons_succ]
  refine wpAnyL_done (by kernel_rfl) ?_ _
  refine NoPanic.normal ?_
  clear hHeld
  have HOD : Only (fun q => q = g) w1 w4 := ⟨ho4.os, ho4.tape, ho4.output, ho4.size, ho4.block⟩
  have HPP : Hid (0 < p) := Lib.hid (by rcases HP.out with h | h <;> omega)
  have HP4 := Lib.hid (HPR.out.turn (fun _ => hrb1) HOD hf4 (HLW.out.scale HPP.out) (fun o => (World.frozen?_of_block (HOD.block rb hrb1 HPR.out.ne)).trans (HPR.out.frz o)))
  have HB4 := Lib.hid (HBX.out.same (HOD.block eb heb1 heg))
  have HO4 := Lib.hid (HO1.out.trans HOD)
  have HR4 : Hid (∀ k, k < n → rowAtF (scaleF p x Fd (s d * l) l) s l k = clearK p (rowAtF Fd s l) d c 0 k) := Lib.hid (fun k hk => by
    rw [rowAtF_scale (fun h => HPR.out.inj k d hk hd h)]
    have e3 : x = intN (rowAtF Fd s l d) c := by rw [← HXE.out, rowAtF_at hc]
    unfold clearK
    rw [e3]
    by_cases hkd : k = d
    · simp [hkd]
    · simp [hkd])
  have HRB4 : Hid (rb < w4.heap.size) := Lib.hid (Nat.lt_of_lt_of_le hrb1 HOD.size)
  have HEB4 : Hid (eb < w4.heap.size) := Lib.hid (Nat.lt_of_lt_of_le heb1 HOD.size)
  obtain ⟨Fs, hFs⟩ : ∃ Fs, scaleF p x Fd (s d * l) l = Fs := ⟨_, rfl⟩
  rw [hFs] at HP4 HR4
  have y2 : w4.cell? ⟨eb, 2, none⟩ = some (.slice (some ⟨rb, 0, none⟩) n rc) := HB4.out.c 2 rfl
  clear hf4 ho4 HOD hFs x0 x1 hrb1 heb1
  go_wp2
  go_loopw [32] (fun v wr => ∃ (i : Nat) (Fk : Nat → Int), i ≤ n ∧ v = .int .i64 i ∧ PRows wr rb g N n l s p Fk ∧ (∀ k, k < n → rowAtF Fk s l k = clearK p (rowAtF Fd s l) d c i k) ∧ Only (fun q => q = g) w wr) (fun v _ => n - (intOf v).toNat)
  case atStart => exact ⟨0, Fs, Nat.zero_le _, rfl, HP4.out, HR4.out, HO4.out⟩
  case round =>
    obtain ⟨i, Fk, hin, rfl, hpk, hrk, hok⟩ := hrel
    have HPK := Lib.hid hpk
    have HRK := Lib.hid hrk
    have HOK := Lib.hid hok
    have HBK : Hid (Box 114 wr eb #[modV p, .int .i64 (u : Int), .slice (some ⟨rb, 0, none⟩) n rc, .int .i64 (d : Int)]) := Lib.hid (HBX0.out.same (hok.block eb HBX0.out.lt heg))
    have HRB : Hid (rb < wr.heap.size) := Lib.hid (Nat.lt_of_lt_of_le hrb hok.size)
    clear hpk hrk hok
    by_cases hil : i < n
    · have hii : (i : Int) < (n : Int) := by omega
      have a0 := HPK.out.at_ i hil
      have b3 : wr.cell? ⟨eb, 3, none⟩ = some (.int .i64 (d : Int)) := HBK.out.c 3 rfl
      by_cases hid : i = d
      · have hidb : ((i : Int) != (d : Int)) = false := by rw [hid]; simp
        have HCK : Hid (clearK p (rowAtF Fd s l) d c (i + 1) = clearK p (rowAtF Fd s l) d c i) := Lib.hid (by rw [hid]; exact clearK_skip _ _ _ _)
        clear hid
        go_wp2
        go_roundw
        case rel => exact ⟨i + 1, Fk, by omega, by go_num, HPK.out, by rw [HCK.out]; exact HRK.out, HOK.out⟩
        case measure => simp [intOf]; omega
      · have hidb : ((i : Int) != (d : Int)) = true := bne_iff_ne.2 (by omega)
        have HID := Lib.hid hid
        have HNE : Hid (s i ≠ s d) := Lib.hid (HPK.out.inj i d hil hd hid)
        have a1 := HPK.out.flat.1 (s i * l + c) (by have := HPK.out.fits hil; omega)
        obtain ⟨t, ht⟩ : ∃ t, Fk (s i * l + c) = t := ⟨_, rfl⟩
        have htb := HPK.out.low (s i * l + c)
        rw [ht] at a1 htb
        have HTB := Lib.hid htb
        have HTE := Lib.hid ht
        have b0 : wr.cell? ⟨eb, 0, none⟩ = some (modV p) := HBK.out.c 0 rfl
        have HOW : Hid (∀ {w5 : World}, Only (fun q => q = g) (wr.drewN 1) w5 → Only (fun q => q = g) wr w5) := Lib.hid (fun h => ⟨h.os, h.tape, h.output, h.size, h.block⟩)
        clear hid ht htb
        go_wp2_with fail
        refine wp_region_noPanic ?_
        refine wp_region_late (S := (fun w' => w'.cell? ⟨eb, 0, none⟩ = some (modV p) ∧ w'.cell? ⟨g, s i * l + c, none⟩ = some (.int .i64 t))) [10] (by kernel_rfl) ?_ (fun hHeld => ?_)
        · exact ⟨b0, a1⟩
        refine wpAnyL_free (i := 0) (v := ?_) (some 43) rfl rfl (by kernel_rfl) (by kernel_rfl) (by kernel_rfl) (by decide) (fun _ _ _ h => h) (Or.inl ⟨by rfl, ?_⟩) (fun h0 => by assumption) ?_
        rotate_left
        · intro wS
          go_simp
          try with_reducible rfl
        try simp only [Act.put, List.setIfInBounds_toArray, List.set_cons_zero, List.set_cons_succ]
        refine wpAnyL_free (i := 1) (v := ?_) (some 44) rfl rfl (by kernel_rfl) (by kernel_rfl) (by kernel_rfl) (by decide) (fun _ _ _ h => h) (Or.inl ⟨by rfl, ?_⟩) (fun h0 => by assumption) ?_
        rotate_left
        · intro wS
          go_simp
          try with_reducible rfl
        try simp only [Act.put, List.setIfInBounds_toArray, List.set_cons_zero, List.set_cons_succ]
        refine wpAnyL_free (i := 2) (v := ?_) (some 45) rfl rfl (by kernel_rfl) (by kernel_rfl) (by kernel_rfl) (by decide) (fun _ _ _ h => h) (Or.inl ⟨by rfl, ?_⟩) (fun h0 => by assumption) ?_
        rotate_left
        · intro wS
          go_simp
          try with_reducible rfl
        try simp only [Act.put, List.setIfInBounds_toArray, List.set_cons_zero, List.set_cons_succ]
        refine wpAnyL_take (i := 3) (v := ?_) (some 46) rfl rfl (by kernel_rfl) (by kernel_rfl) (by kernel_rfl) (by kernel_rfl) (by kernel_rfl) (fun _ _ _ h => h) (Or.inl ⟨by rfl, ?_⟩) (by assumption) ?_
        rotate_left
        · intro wS hSw
          try dsimp only at hSw
          go_simp
          try with_reducible rfl
        try simp only [Act.put, List.setIfInBounds_toArray, List.set_cons_zero, List.set_cons_succ]
        refine wpAnyL_free (i := 4) (v := ?_) (some 47) rfl rfl (by kernel_rfl) (by kernel_rfl) (by kernel_rfl) (by decide) (fun _ _ _ h => h) (Or.inl ⟨by rfl, ?_⟩) (fun h0 => by assumption) ?_
        rotate_left
        · intro wS
          go_simp
          try with_reducible rfl
        try simp only [Act.put, List.setIfInBounds_toArray, List.set_cons_zero, List.set_cons_succ]
        refine wpAnyL_free (i := 5) (v := ?_) (some 48) rfl rfl (by kernel_rfl) (by kernel_rfl) (by kernel_rfl) (by decide) (fun _ _ _ h => h) (Or.inl ⟨by rfl, ?_⟩) (fun h0 => by assumption) ?_
        rotate_left
        · intro wS
          go_simp
          try with_reducible rfl
        try simp only [Act.put, List.setIfInBounds_toArray, List.set_cons_zero, List.set_cons_succ]
        refine wpAnyL_free (i := 6) (v := ?_) (some 49) rfl rfl (by kernel_rfl) (by kernel_rfl) (by kernel_rfl) (by decide) (fun _ _ _ h => h) (Or.inl ⟨by rfl, ?_⟩) (fun h0 => by assumption) ?_
        rotate_left
        · intro wS
          go_simp
          try with_reducible rfl
        try simp only [Act.put, List.setIfInBounds_toArray, List.set_cons_zero, List.set_cons_succ]
        refine wpAnyL_free (i := 7) (v := ?_) (some 50) rfl rfl (by kernel_rfl) (by kernel_rfl) (by kernel_rfl) (by decide) (fun _ _ _ h => h) (Or.inl ⟨by rfl, ?_⟩) (fun h0 => by assumption) ?_
        rotate_left
        · intro wS
          go_simp
          try with_reducible rfl
        try simp only [Act.put, List.setIfInBounds_toArray, List.set_cons_zero, List.set_cons_succ]
        refine wpAnyL_free (i := 8) (v := ?_) (some 51) rfl rfl (by kernel_rfl) (by kernel_rfl) (by kernel_rfl) (by decide) (fun _ _ _ h => h) (Or.inl ⟨by rfl, ?_⟩) (fun h0 => by assumption) ?_
        rotate_left
        · intro wS
          go_simp
          try with_reducible rfl
        try simp only [Act.put, List.setIfInBounds_toArray, List.set_cons_zero, List.set_cons_succ]
        refine wpAnyL_take (i := 9) (v := ?_) (some 52) rfl rfl (by kernel_rfl) (by kernel_rfl) (by kernel_rfl) (by kernel_rfl) (by kernel_rfl) (fun _ _ _ h => h) (Or.inl ⟨by rfl, ?_⟩) (by assumption) ?_
        rotate_left
        · intro wS hSw
          try dsimp only at hSw
          go_simp
          try with_reducible rfl
        try simp only [Act.put, List.setIfInBounds_toArray, List.set_cons_zero, List.set_cons_succ]
        refine wpAnyL_ready (rs := [10]) (by kernel_rfl) (by simp) ?_
        refine AllReadyL.last rfl (by kernel_rfl) (fun K hK => ?_) AllReadyL.nil
        go_simp; go_at_call 146; refine (takeAwayP p g N (s i * l) (s d * l) l l l t Fk _ HP.out (HPK.out.flat.drewN_ 1) HPK.out.low HTB.out (HPK.out.fits hil) (HPK.out.fits hd) (far_rows HNE.out) hN).mono ?_; rintro e w5 ⟨rfl, hf5, ho5⟩
        refine hK.out _ _ ?_
        clear hK K
        try simp only [Act.put, List.setIfInBounds_toArray, List.set_cons_zero, List.set_cons_succ]
        refine wpAnyL_done (by kernel_rfl) ?_ _
        refine NoPanic.normal ?_
        clear hHeld
        have HP6 := Lib.hid (HPK.out.turn (fun _ => HRB.out) (HOW.out ho5) hf5 (HPK.out.low.take HPP.out) (fun o => (World.frozen?_of_block ((HOW.out ho5).block rb HRB.out HPK.out.ne)).trans (HPK.out.frz o)))
        have HO6 := Lib.hid (HOK.out.trans (HOW.out ho5))
        have HR6 : Hid (∀ k, k < n → rowAtF (takeF p t Fk (s i * l) (s d * l) l) s l k = clearK p (rowAtF Fd s l) d c (i + 1) k) := Lib.hid (fun k hk => by
          rw [rowAtF_take (fun h => HPK.out.inj k i hk hil h), ← clearK_succ HID.out]
          have e1 : rowAtF Fk s l i = rowAtF Fd s l i := by rw [HRK.out i hil]; unfold clearK; rw [if_neg HID.out, if_neg (Nat.lt_irrefl _)]
          have e2 : rowAtF Fk s l d = rowScale p (intN (rowAtF Fd s l d) c) (rowAtF Fd s l d) := by rw [HRK.out d hd]; unfold clearK; rw [if_pos rfl]
          have e3 : t = intN (rowAtF Fd s l i) c := by rw [← HTE.out, ← e1, rowAtF_at hc]
          show (if k = i then _ else _) = (if k = i then _ else _)
          rw [e1, e2, e3, HRK.out k hk])
        clear hf5 ho5
        go_wp2
        go_roundw
        case rel => exact ⟨i + 1, _, by omega, by go_num, HP6.out, HR6.out, HO6.out⟩
        case measure => simp [intOf]; omega
    · obtain rfl : i = n := by omega
      go_wp2
      go_end0
      exact ⟨Fk, rfl, HPK.out, HRK.out, HOK.out⟩

end Go.Proofs.Ytnbgpeoceejolaa
