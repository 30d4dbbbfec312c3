/-
  complete and SolveSystem of the program.
-/
import Derived.Test.YtnbgpeoceejolaaSolveS
import Derived.Test.YtnbgpeoceejolaaGElimP
namespace Go.Proofs.Ytnbgpeoceejolaa
open Go.RowKit

theorem ElimAt.onlyV {S : Nat → Prop} {w w' : World} {eb rb g n l u d : Nat} {s : Nat → Nat} {p : Int} {F : Nat → Int} {R : Nat → List Int} (h : ElimAt w eb rb g n l u d s p F R) (ho : Only S w w') (h1 : ¬ S eb) (h2 : ¬ S rb) (h3 : ¬ S g) : ElimAt w' eb rb g n l u d s p F R :=
  ⟨h.box.same (ho.block eb h.heb h1), ⟨fun i hi => (World.cell?_of_block (ho.block rb h.hrb h2)).trans (h.rows.at_ i hi), fun o => (World.frozen?_of_block (ho.block rb h.hrb h2)).trans (h.rows.frz o), h.rows.flat.same (ho.block g h.rows.inn h3), h.rows.low, h.rows.lt, h.rows.inj, h.rows.ne, h.rows.fit, Nat.lt_of_lt_of_le h.rows.inn ho.size⟩, h.eq, Nat.lt_of_lt_of_le h.hrb ho.size, Nat.lt_of_lt_of_le h.heb ho.size, h.heg, h.her⟩

set_option linter.unusedSimpArgs false in
set_option maxHeartbeats 4000000 in
set_option maxRecDepth 100000 in
theorem complete2 (B eb rb g n l u d vb cv : Nat) (s : Nat → Nat) (F : Nat → Int) (R : Nat → List Int) (c : Nat → Nat) (w : World) (h : ElimAt w eb rb g n l u d s 2 F R) (hul : u < l) (hd : d ≤ n) (hn : n ≤ 24) (hu : u ≤ 12) (hpv : Piv n u R d c) (hgd : GoodR 2 n l R) (hv : OwnRow w B (.slice (some ⟨vb, 0, none⟩) u cv) (solV R c u 0)) (hne : vb ≠ eb ∧ vb ≠ rb ∧ vb ≠ g) :
    Calls Try.prog 92 #[.pointer (some ⟨eb, 0, none⟩), .slice (some ⟨vb, 0, none⟩) u cv] w fun e w' => e = .returned (.tuple #[]) ∧ OwnRow w' B (.slice (some ⟨vb, 0, none⟩) u cv) (solV R c u d) ∧ Only (fun q => q = vb ∨ w.heap.size ≤ q) w w' := by
  have HE := Lib.hid h
  have HPV := Lib.hid hpv
  have HGD := Lib.hid hgd
  have HV0 := Lib.hid hv
  have HPP : Hid (PrimeP 2) := Lib.hid (by unfold PrimeP; omega)
  have hl37 : l ≤ 888 ∨ n = 0 := by
    by_cases h0 : n = 0
    · exact .inr h0
    · refine .inl ?_
      have h1 := Nat.mul_le_mul_right l (show 1 ≤ n by omega)
      have := h.rows.fit
      omega
  have hmp := method_prime2
  have y0 : w.cell? ⟨eb, 0, none⟩ = some (.iface 247 (.agg #[])) := h.box.c 0 rfl
  clear h hpv hgd hv
  go_enter Try.func92, Try.ntmps92
  go_wp2_with fail
  refine (prime2 _).mono ?_
  rintro e w1 ⟨rfl, hb1⟩
  have HE1 := Lib.hid (HE.out.below hb1)
  have HV1 := Lib.hid (HV0.out.below hb1)
  have HO1 : Hid (Only (fun q => q = vb ∨ w.heap.size ≤ q) w w1) := Lib.hid hb1.only
  have y2 : w1.cell? ⟨eb, 2, none⟩ = some (.slice (some ⟨rb, 0, none⟩) n n) := HE1.out.box.c 2 rfl
  have y3 : w1.cell? ⟨eb, 3, none⟩ = some (.int .i64 (d : Int)) := HE1.out.box.c 3 rfl
  have hdn : (d : Int) ≤ (n : Int) := by omega
  clear hb1 y0
  go_wp2_with fail
  refine wp_region_noPanic ?_
  refine wp_region_late (S := (fun w' => w'.cell? ⟨eb, 2, none⟩ = some (.slice (some ⟨rb, 0, none⟩) n n) ∧ w'.cell? ⟨eb, 3, none⟩ = some (.int .i64 (d : Int)))) [] (by kernel_rfl) ?_ (fun hHeld => ?_)
  · exact ⟨y2, y3⟩
  refine wpAnyL_free (i := 0) (v := ?_) (some 13) rfl rfl (by kernel_rfl) (by kernel_rfl) (by kernel_rfl) (by decide) (fun _ _ _ h => h) (Or.inl ⟨by rfl, ?_⟩) (fun h0 => by assumption) ?_
  rotate_left
  · intro wS
    go_simp
    try with_reducible rfl
  try simp only [Act.put, List.setIfInBounds_toArray, List.set_cons_zero, List.set_cons_succ]
  refine wpAnyL_free (i := 1) (v := ?_) (some 14) rfl rfl (by kernel_rfl) (by kernel_rfl) (by kernel_rfl) (by decide) (fun _ _ _ h => h) (Or.inl ⟨by rfl, ?_⟩) (fun h0 => by assumption) ?_
  rotate_left
  · intro wS
    go_simp
    try with_reducible rfl
  try simp only [Act.put, List.setIfInBounds_toArray, List.set_cons_zero, List.set_cons_succ]
  refine wpAnyL_free (i := 2) (v := ?_) (some 15) rfl rfl (by kernel_rfl) (by kernel_rfl) (by kernel_rfl) (by decide) (fun _ _ _ h => h) (Or.inl ⟨by rfl, ?_⟩) (fun h0 => by assumption) ?_
  rotate_left
  · intro wS
    go_simp
    try with_reducible rfl
  try simp only [Act.put, List.setIfInBounds_toArray, List.set_cons_zero, List.set_cons_succ]
  refine wpAnyL_take (i := 3) (v := ?_) (some 16) rfl rfl (by kernel_rfl) (by kernel_rfl) (by kernel_rfl) (by kernel_rfl) (by kernel_rfl) (fun _ _ _ h => h) (Or.inl ⟨by rfl, ?_⟩) (by assumption) ?_
  rotate_left
  · intro wS hSw
    try dsimp only at hSw
    go_simp
    try with_reducible rfl
  try simp only [Act.put, List.setIfInBounds_toArray, List.set_cons_zero, List.set_cons_succ]
  refine wpAnyL_free (i := 4) (v := ?_) (some 17) rfl rfl (by kernel_rfl) (by kernel_rfl) (by kernel_rfl) (by decide) (fun _ _ _ h => h) (Or.inl ⟨by rfl, ?_⟩) (fun h0 => by assumption) ?_
  rotate_left
  · intro wS
    go_simp
    try with_reducible rfl
  try simp only [Act.put, List.setIfInBounds_toArray, List.set_cons_zero, List.set_cons_succ]
  refine wpAnyL_free (i := 5) (v := ?_) (some 18) rfl rfl (by kernel_rfl) (by kernel_rfl) (by kernel_rfl) (by decide) (fun _ _ _ h => h) (Or.inl ⟨by rfl, ?_⟩) (fun h0 => by assumption) ?_
  rotate_left
  · intro wS
    go_simp
    try with_reducible rfl
  try simp only [Act.put, List.setIfInBounds_toArray, List.set_cons_zero, List.set_cons_succ]
  refine wpAnyL_free (i := 6) (v := ?_) (some 19) rfl rfl (by kernel_rfl) (by kernel_rfl) (by kernel_rfl) (by decide) (fun _ _ _ h => h) (Or.inl ⟨by rfl, ?_⟩) (fun h0 => by assumption) ?_
  rotate_left
  · intro wS
    go_simp
    try with_reducible rfl
  try simp only [Act.put, List.setIfInBounds_toArray, List.set_cons_zero, List.set_cons_succ]
  refine wpAnyL_take (i := 7) (v := ?_) (some 20) rfl rfl (by kernel_rfl) (by kernel_rfl) (by kernel_rfl) (by kernel_rfl) (by kernel_rfl) (fun _ _ _ h => h) (Or.inl ⟨by rfl, ?_⟩) (by assumption) ?_
  rotate_left
  · intro wS hSw
    try dsimp only at hSw
    go_simp
    try with_reducible rfl
  try simp only [Act.put, List.setIfInBounds_toArray, List.set_cons_zero, List.set_cons_succ]
  refine wpAnyL_free (i := 8) (v := ?_) (some 21) rfl rfl (by kernel_rfl) (by kernel_rfl) (by kernel_rfl) (by decide) (fun _ _ _ h => h) (Or.inl ⟨by rfl, ?_⟩) (fun h0 => by assumption) ?_
  rotate_left
  · intro wS
    go_simp
    try with_reducible rfl
  try simp only [Act.put, List.setIfInBounds_toArray, List.set_cons_zero, List.set_cons_succ]
  refine wpAnyL_free (i := 9) (v := ?_) (some 22) rfl rfl (by kernel_rfl) (by kernel_rfl) (by kernel_rfl) (by decide) (fun _ _ _ h => h) (Or.inl ⟨by rfl, ?_⟩) (fun h0 => by assumption) ?_
  rotate_left
  · intro wS
    go_simp
    try with_reducible rfl
  try simp only [Act.put, List.setIfInBounds_toArray, List.set_cons_zero, List.set_cons_succ]
  refine wpAnyL_free (i := 10) (v := ?_) (some 23) rfl rfl (by kernel_rfl) (by kernel_rfl) (by kernel_rfl) (by decide) (fun _ _ _ h => h) (Or.inl ⟨by rfl, ?_⟩) (fun h0 => by assumption) ?_
  rotate_left
  · intro wS
    go_simp
    try with_reducible rfl
  try simp only [Act.put, List.setIfInBounds_toArray, List.set_cons_zero, List.set_cons_succ]
  refine wpAnyL_done (by kernel_rfl) ?_ _
  refine NoPanic.normal ?_
  clear hHeld
  obtain ⟨w1d, hw1d⟩ : ∃ w1d, w1.drew = w1d := ⟨_, rfl⟩
  have HE2 := Lib.hid (HE1.out.drew)
  rw [hw1d] at HE2
  have HV2 : Hid (OwnRow w1d B (.slice (some ⟨vb, 0, none⟩) u cv) (solV R c u 0)) := Lib.hid (by rw [← hw1d]; exact HV1.out.below (Below.refl _ _).drew)
  have HO2 : Hid (Only (fun q => q = vb ∨ w.heap.size ≤ q) w w1d) := Lib.hid (by rw [← hw1d]; exact HO1.out.drew)
  rw [show w1.drew = w1d from hw1d]
  clear hw1d y2 y3
  try simp only [ite_self]
  go_wp2
  go_loopw [23] (fun v wr => ∃ k : Nat, k ≤ d ∧ v = .int .i64 k ∧ OwnRow wr B (.slice (some ⟨vb, 0, none⟩) u cv) (solV R c u k) ∧ Only (fun q => q = vb ∨ w.heap.size ≤ q) w wr) (fun v _ => d - (intOf v).toNat)
  case atStart => exact ⟨0, Nat.zero_le _, rfl, HV2.out, HO2.out⟩
  case round =>
    obtain ⟨k, hk, rfl, hv, ho⟩ := hrel
    have HV := Lib.hid hv
    have HOV := Lib.hid ho
    have HEK := Lib.hid (HE.out.onlyV ho (by rintro (h | h); exact hne.1 h.symm; have := HE.out.heb; omega) (by rintro (h | h); exact hne.2.1 h.symm; have := HE.out.hrb; omega) (by rintro (h | h); exact hne.2.2 h.symm; have := HE.out.rows.inn; omega))
    clear hv ho
    by_cases hlt : k < d
    · have hkd : (k : Int) < (d : Int) := by omega
      have hkn : k < n := by omega
      obtain ⟨hgl, hlow⟩ := HGD.out k hkn
      have hfit := HEK.out.rows.fits hkn
      have e0 := HEK.out.rows.at_ k hkn
      obtain ⟨so, hso⟩ : ∃ so, s k * l = so := ⟨_, rfl⟩
      obtain ⟨r, hr⟩ : ∃ r, intN (R k) u = r := ⟨_, rfl⟩
      obtain ⟨ck, hck⟩ : ∃ ck, c k = ck := ⟨_, rfl⟩
      rw [hso] at e0 hfit
      have HAT : Hid (∀ j, j < l → F (so + j) = intN (R k) j) := Lib.hid fun j hj => by
        rw [← HEK.out.eq k hkn, rowAtF_at hj, hso]
      have HFLAT := Lib.hid HEK.out.rows.flat
      have HRA : Hid (RowAt wr (.slice (some ⟨g, so, none⟩) l l) (R k)) := Lib.hid (by
        unfold RowAt
        rw [hgl]
        refine ⟨_, _, rfl, by omega, fun _ => ⟨g, so, rfl, fun j hj => ?_⟩⟩
        have e := HFLAT.out.1 (so + j) (by omega)
        rw [HAT.out j hj] at e
        exact e)
      have htl : ((R k).take u).length = u := by rw [List.length_take, hgl]; omega
      have HRU : Hid (RowAt wr (.slice (some ⟨g, so, none⟩) u l) ((R k).take u)) := Lib.hid (by
        unfold RowAt
        rw [htl]
        refine ⟨_, _, rfl, by omega, fun _ => ⟨g, so, rfl, fun j hj => ?_⟩⟩
        have e := HFLAT.out.1 (so + j) (by omega)
        rw [HAT.out j (by omega)] at e
        show wr.cell? ⟨g, so + j, none⟩ = some (.int .i64 (intN ((R k).take u) j))
        rw [intN_take hj]
        exact e)
      have x1 : wr.cell? ⟨eb, 1, none⟩ = some (.int .i64 (u : Int)) := HEK.out.box.c 1 rfl
      have x2 : wr.cell? ⟨g, so + u, none⟩ = some (.int .i64 r) := by
        have e := HFLAT.out.1 (so + u) (by omega)
        rw [HAT.out u hul, hr] at e
        exact e
      have HFV : Hid (firstV (R k) = (ck : Int)) := Lib.hid (by rw [HPV.out.firstW hd hlt (by omega), hck])
      have hcku : ck < u := by rw [← hck]; exact HPV.out.lt k hlt
      have hcki : (ck : Int) < (u : Int) := by omega
      have HSV : Hid ((solV R c u k).set ck r = solV R c u (k + 1)) := Lib.hid (by rw [← hr, ← hck]; rfl)
      have HL1 : Hid (Low3 ((R k).take u)) := Lib.hid ((hlow.take u).low3 (by decide))
      have HL2 : Hid (Low3 (solV R c u k)) := Lib.hid ((solV_low (by decide) (fun i hi => (HGD.out i (by omega)).2.any (by decide) u)).low3 (by decide : (2 : Int) ≤ 3))
      have HLN : Hid (((R k).take u).length = (solV R c u k).length) := Lib.hid (by rw [htl, solV_len])
      have HL12 : Hid (((R k).take u).length ≤ 12) := Lib.hid (by omega)
      have HDOT : Hid (dotK ((R k).take u) (solV R c u k) ((R k).take u).length % 2 = 0) := Lib.hid (by rw [htl, HPV.out.others hd hlt]; rfl)
      have HVR := Lib.hid HV.out.rowAt
      have hrl := hlow.any (by decide) u
      rw [hr] at hrl
      have hul2 : (u : Int) < (l : Int) := by omega
      have hul3 : (u : Int) ≤ (l : Int) := by omega
      have hw0 : IntKind.i64.wrap r = r := IntWalk.i64_in _ (by omega)
      have hw1 : IntKind.i64.wrap (r + 2) = r + 2 := IntWalk.i64_in _ (by omega)
      have hm0 : Int.tmod (r + 2) 2 = r := by rw [Int.tmod_eq_emod_of_nonneg (by omega)]; omega
      clear hgl hlow hfit hso hr hck htl
      go_wp2_with fail
      refine (sumOfM 2 _ _ _ ((R k).take u) _ _ _ (solV R c u k) 0 _ HRU.out HVR.out HLN.out HPP.out HL1.out HL2.out HL12.out HDOT.out).mono ?_
      rintro e w3 ⟨rfl, rfl⟩
      go_wp2_with fail
      refine wp_region_noPanic ?_
      refine wp_region_late (S := (fun w' => w'.cell? ⟨eb, 1, none⟩ = some (.int .i64 (u : Int)) ∧ w'.cell? ⟨g, so + u, none⟩ = some (.int .i64 r) ∧ Below wr.heap.size wr w')) [17] (by kernel_rfl) ?_ (fun hHeld => ?_)
      · exact ⟨x1, x2, (QW.refl _).drew.below _⟩
      refine wpAnyL_free (i := 0) (v := ?_) (some 36) rfl rfl (by kernel_rfl) (by kernel_rfl) (by kernel_rfl) (by decide) (fun _ _ _ h => h) (Or.inl ⟨by rfl, ?_⟩) (fun h0 => by assumption) ?_
      rotate_left
      · intro wS
        go_simp
        try with_reducible rfl
      try simp only [Act.put, List.setIfInBounds_toArray, List.set_cons_zero, List.set_cons_succ]
      refine wpAnyL_free (i := 1) (v := ?_) (some 37) rfl rfl (by kernel_rfl) (by kernel_rfl) (by kernel_rfl) (by decide) (fun _ _ _ h => h) (Or.inl ⟨by rfl, ?_⟩) (fun h0 => by assumption) ?_
      rotate_left
      · intro wS
        go_simp
        try with_reducible rfl
      try simp only [Act.put, List.setIfInBounds_toArray, List.set_cons_zero, List.set_cons_succ]
      refine wpAnyL_free (i := 3) (v := ?_) (some 39) rfl rfl (by kernel_rfl) (by kernel_rfl) (by kernel_rfl) (by decide) (fun _ _ _ h => h) (Or.inl ⟨by rfl, ?_⟩) (fun h0 => by assumption) ?_
      rotate_left
      · intro wS
        go_simp
        try with_reducible rfl
      try simp only [Act.put, List.setIfInBounds_toArray, List.set_cons_zero, List.set_cons_succ]
      refine wpAnyL_free (i := 4) (v := ?_) (some 40) rfl rfl (by kernel_rfl) (by kernel_rfl) (by kernel_rfl) (by decide) (fun _ _ _ h => h) (Or.inl ⟨by rfl, ?_⟩) (fun h0 => by assumption) ?_
      rotate_left
      · intro wS
        go_simp
        try with_reducible rfl
      try simp only [Act.put, List.setIfInBounds_toArray, List.set_cons_zero, List.set_cons_succ]
      refine wpAnyL_free (i := 5) (v := ?_) (some 41) rfl rfl (by kernel_rfl) (by kernel_rfl) (by kernel_rfl) (by decide) (fun _ _ _ h => h) (Or.inl ⟨by rfl, ?_⟩) (fun h0 => by assumption) ?_
      rotate_left
      · intro wS
        go_simp
        try with_reducible rfl
      try simp only [Act.put, List.setIfInBounds_toArray, List.set_cons_zero, List.set_cons_succ]
      refine wpAnyL_free (i := 6) (v := ?_) (some 42) rfl rfl (by kernel_rfl) (by kernel_rfl) (by kernel_rfl) (by decide) (fun _ _ _ h => h) (Or.inl ⟨by rfl, ?_⟩) (fun h0 => by assumption) ?_
      rotate_left
      · intro wS
        go_simp
        try with_reducible rfl
      try simp only [Act.put, List.setIfInBounds_toArray, List.set_cons_zero, List.set_cons_succ]
      refine wpAnyL_take (i := 7) (v := ?_) (some 43) rfl rfl (by kernel_rfl) (by kernel_rfl) (by kernel_rfl) (by kernel_rfl) (by kernel_rfl) (fun _ _ _ h => h) (Or.inl ⟨by rfl, ?_⟩) (by assumption) ?_
      rotate_left
      · intro wS hSw
        try dsimp only at hSw
        go_simp
        try with_reducible rfl
      try simp only [Act.put, List.setIfInBounds_toArray, List.set_cons_zero, List.set_cons_succ]
      refine wpAnyL_free (i := 8) (v := ?_) (some 44) rfl rfl (by kernel_rfl) (by kernel_rfl) (by kernel_rfl) (by decide) (fun _ _ _ h => h) (Or.inl ⟨by rfl, ?_⟩) (fun h0 => by assumption) ?_
      rotate_left
      · intro wS
        go_simp
        try with_reducible rfl
      try simp only [Act.put, List.setIfInBounds_toArray, List.set_cons_zero, List.set_cons_succ]
      refine wpAnyL_take (i := 9) (v := ?_) (some 45) rfl rfl (by kernel_rfl) (by kernel_rfl) (by kernel_rfl) (by kernel_rfl) (by kernel_rfl) (fun _ _ _ h => h) (Or.inl ⟨by rfl, ?_⟩) (by assumption) ?_
      rotate_left
      · intro wS hSw
        try dsimp only at hSw
        go_simp
        try with_reducible rfl
      try simp only [Act.put, List.setIfInBounds_toArray, List.set_cons_zero, List.set_cons_succ]
      refine wpAnyL_free (i := 10) (v := ?_) (some 46) rfl rfl (by kernel_rfl) (by kernel_rfl) (by kernel_rfl) (by decide) (fun _ _ _ h => h) (Or.inl ⟨by rfl, ?_⟩) (fun h0 => by assumption) ?_
      rotate_left
      · intro wS
        go_simp
        try with_reducible rfl
      try simp only [Act.put, List.setIfInBounds_toArray, List.set_cons_zero, List.set_cons_succ]
      refine wpAnyL_free (i := 11) (v := ?_) (some 47) rfl rfl (by kernel_rfl) (by kernel_rfl) (by kernel_rfl) (by decide) (fun _ _ _ h => h) (Or.inl ⟨by rfl, ?_⟩) (fun h0 => by assumption) ?_
      rotate_left
      · intro wS
        go_simp
        try with_reducible rfl
      try simp only [Act.put, List.setIfInBounds_toArray, List.set_cons_zero, List.set_cons_succ]
      refine wpAnyL_free (i := 12) (v := ?_) (some 48) rfl rfl (by kernel_rfl) (by kernel_rfl) (by kernel_rfl) (by decide) (fun _ _ _ h => h) (Or.inl ⟨by rfl, ?_⟩) (fun h0 => by assumption) ?_
      rotate_left
      · intro wS
        go_simp
        try with_reducible rfl
      try simp only [Act.put, List.setIfInBounds_toArray, List.set_cons_zero, List.set_cons_succ]
      refine wpAnyL_free (i := 13) (v := ?_) (some 49) rfl rfl (by kernel_rfl) (by kernel_rfl) (by kernel_rfl) (by decide) (fun _ _ _ h => h) (Or.inl ⟨by rfl, ?_⟩) (fun h0 => by assumption) ?_
      rotate_left
      · intro wS
        go_simp
        try with_reducible rfl
      try simp only [Act.put, List.setIfInBounds_toArray, List.set_cons_zero, List.set_cons_succ]
      refine wpAnyL_free (i := 14) (v := ?_) (some 50) rfl rfl (by kernel_rfl) (by kernel_rfl) (by kernel_rfl) (by decide) (fun _ _ _ h => h) (Or.inl ⟨by rfl, ?_⟩) (fun h0 => by assumption) ?_
      rotate_left
      · intro wS
        go_simp
        try with_reducible rfl
      try simp only [Act.put, List.setIfInBounds_toArray, List.set_cons_zero, List.set_cons_succ]
      refine wpAnyL_free (i := 15) (v := ?_) (some 51) rfl rfl (by kernel_rfl) (by kernel_rfl) (by kernel_rfl) (by decide) (fun _ _ _ h => h) (Or.inl ⟨by rfl, ?_⟩) (fun h0 => by assumption) ?_
      rotate_left
      · intro wS
        go_simp
        try with_reducible rfl
      try simp only [Act.put, List.setIfInBounds_toArray, List.set_cons_zero, List.set_cons_succ]
      refine wpAnyL_ready (rs := [2]) (by kernel_rfl) (by simp) ?_
      refine AllReadyL.cons rfl (fun K hK => ?_) AllReadyL.nil
      go_simp; go_at_call 143; refine (beginOfC _ _ _ (HRA.out.below hHeld.2.2)).mono ?_; rw [HFV.out]; rintro e w4 ⟨rfl, rfl⟩
      refine hK.out _ _ ?_ (fun hHeld => ?_)
      · exact hHeld
      clear hK K
      try simp only [Act.put, List.setIfInBounds_toArray, List.set_cons_zero, List.set_cons_succ]
      refine wpAnyL_free (i := 16) (v := ?_) (some 52) rfl rfl (by kernel_rfl) (by kernel_rfl) (by kernel_rfl) (by decide) (fun _ _ _ h => h) (Or.inl ⟨by rfl, ?_⟩) (fun h0 => by assumption) ?_
      rotate_left
      · intro wS
        go_simp
        try with_reducible rfl
      try simp only [Act.put, List.setIfInBounds_toArray, List.set_cons_zero, List.set_cons_succ]
      refine wpAnyL_ready (rs := [17]) (by kernel_rfl) (by simp) ?_
      refine AllReadyL.last rfl (by kernel_rfl) (fun K hK => ?_) AllReadyL.nil
      have HB5 := Lib.hid hHeld.2.2
      have hfl5 := HV.out.below HB5.out
      have ex5 := hfl5.cell_of ck (by rw [solV_len]; exact hcku)
      have fz5 := hfl5.free ck
      have HF5 := Lib.hid (hfl5.set ck r)
      clear hfl5
      go_simp
      refine hK.out _ _ ?_
      clear hK K
      try simp only [Act.put, List.setIfInBounds_toArray, List.set_cons_zero, List.set_cons_succ]
      refine wpAnyL_done (by kernel_rfl) ?_ _
      refine NoPanic.normal ?_
      have HO6 := Lib.hid ((HOV.out.trans (HB5.out.only)).setCell (p := ⟨vb, ck, none⟩) (Or.inl rfl) (.int .i64 r))
      clear hHeld ex5 fz5 x1 x2
      go_wp2
      go_roundw
      case rel => exact ⟨k + 1, by omega, by go_num, by rw [← HSV.out]; exact HF5.out, HO6.out⟩
      case measure => simp [intOf]; omega
    · obtain rfl : k = d := by omega
      go_wp2
      go_end0
      exact ⟨rfl, HV.out, HOV.out⟩

set_option linter.unusedSimpArgs false in
set_option maxHeartbeats 4000000 in
set_option maxRecDepth 100000 in
theorem complete3 (B eb rb g n l u d vb cv : Nat) (s : Nat → Nat) (F : Nat → Int) (R : Nat → List Int) (c : Nat → Nat) (w : World) (h : ElimAt w eb rb g n l u d s 3 F R) (hul : u < l) (hd : d ≤ n) (hn : n ≤ 24) (hu : u ≤ 12) (hpv : Piv n u R d c) (hgd : GoodR 3 n l R) (hv : OwnRow w B (.slice (some ⟨vb, 0, none⟩) u cv) (solV R c u 0)) (hne : vb ≠ eb ∧ vb ≠ rb ∧ vb ≠ g) :
    Calls Try.prog 92 #[.pointer (some ⟨eb, 0, none⟩), .slice (some ⟨vb, 0, none⟩) u cv] w fun e w' => e = .returned (.tuple #[]) ∧ OwnRow w' B (.slice (some ⟨vb, 0, none⟩) u cv) (solV R c u d) ∧ Only (fun q => q = vb ∨ w.heap.size ≤ q) w w' := by
  have HE := Lib.hid h
  have HPV := Lib.hid hpv
  have HGD := Lib.hid hgd
  have HV0 := Lib.hid hv
  have HPP : Hid (PrimeP 3) := Lib.hid (by unfold PrimeP; omega)
  have hl37 : l ≤ 888 ∨ n = 0 := by
    by_cases h0 : n = 0
    · exact .inr h0
    · refine .inl ?_
      have h1 := Nat.mul_le_mul_right l (show 1 ≤ n by omega)
      have := h.rows.fit
      omega
  have hmp := method_prime3
  have y0 : w.cell? ⟨eb, 0, none⟩ = some (.iface 248 (.agg #[])) := h.box.c 0 rfl
  clear h hpv hgd hv
  go_enter Try.func92, Try.ntmps92
  go_wp2_with fail
  refine (prime3 _).mono ?_
  rintro e w1 ⟨rfl, hb1⟩
  have HE1 := Lib.hid (HE.out.below hb1)
  have HV1 := Lib.hid (HV0.out.below hb1)
  have HO1 : Hid (Only (fun q => q = vb ∨ w.heap.size ≤ q) w w1) := Lib.hid hb1.only
  have y2 : w1.cell? ⟨eb, 2, none⟩ = some (.slice (some ⟨rb, 0, none⟩) n n) := HE1.out.box.c 2 rfl
  have y3 : w1.cell? ⟨eb, 3, none⟩ = some (.int .i64 (d : Int)) := HE1.out.box.c 3 rfl
  have hdn : (d : Int) ≤ (n : Int) := by omega
  clear hb1 y0
  go_wp2_with fail
  refine wp_region_noPanic ?_
  refine wp_region_late (S := (fun w' => w'.cell? ⟨eb, 2, none⟩ = some (.slice (some ⟨rb, 0, none⟩) n n) ∧ w'.cell? ⟨eb, 3, none⟩ = some (.int .i64 (d : Int)))) [] (by kernel_rfl) ?_ (fun hHeld => ?_)
  · exact ⟨y2, y3⟩
  refine wpAnyL_free (i := 0) (v := ?_) (some 13) rfl rfl (by kernel_rfl) (by kernel_rfl) (by kernel_rfl) (by decide) (fun _ _ _ h => h) (Or.inl ⟨by rfl, ?_⟩) (fun h0 => by assumption) ?_
  rotate_left
  · intro wS
    go_simp
    try with_reducible rfl
  try simp only [Act.put, List.setIfInBounds_toArray, List.set_cons_zero, List.set_cons_succ]
  refine wpAnyL_free (i := 1) (v := ?_) (some 14) rfl rfl (by kernel_rfl) (by kernel_rfl) (by kernel_rfl) (by decide) (fun _ _ _ h => h) (Or.inl ⟨by rfl, ?_⟩) (fun h0 => by assumption) ?_
  rotate_left
  · intro wS
    go_simp
    try with_reducible rfl
  try simp only [Act.put, List.setIfInBounds_toArray, List.set_cons_zero, List.set_cons_succ]
  refine wpAnyL_free (i := 2) (v := ?_) (some 15) rfl rfl (by kernel_rfl) (by kernel_rfl) (by kernel_rfl) (by decide) (fun _ _ _ h => h) (Or.inl ⟨by rfl, ?_⟩) (fun h0 => by assumption) ?_
  rotate_left
  · intro wS
    go_simp
    try with_reducible rfl
  try simp only [Act.put, List.setIfInBounds_toArray, List.set_cons_zero, List.set_cons_succ]
  refine wpAnyL_take (i := 3) (v := ?_) (some 16) rfl rfl (by kernel_rfl) (by kernel_rfl) (by kernel_rfl) (by kernel_rfl) (by kernel_rfl) (fun _ _ _ h => h) (Or.inl ⟨by rfl, ?_⟩) (by assumption) ?_
  rotate_left
  · intro wS hSw
    try dsimp only at hSw
    go_simp
    try with_reducible rfl
  try simp only [Act.put, List.setIfInBounds_toArray, List.set_cons_zero, List.set_cons_succ]
  refine wpAnyL_free (i := 4) (v := ?_) (some 17) rfl rfl (by kernel_rfl) (by kernel_rfl) (by kernel_rfl) (by decide) (fun _ _ _ h => h) (Or.inl ⟨by rfl, ?_⟩) (fun h0 => by assumption) ?_
  rotate_left
  · intro wS
    go_simp
    try with_reducible rfl
  try simp only [Act.put, List.setIfInBounds_toArray, List.set_cons_zero, List.set_cons_succ]
  refine wpAnyL_free (i := 5) (v := ?_) (some 18) rfl rfl (by kernel_rfl) (by kernel_rfl) (by kernel_rfl) (by decide) (fun _ _ _ h => h) (Or.inl ⟨by rfl, ?_⟩) (fun h0 => by assumption) ?_
  rotate_left
  · intro wS
    go_simp
    try with_reducible rfl
  try simp only [Act.put, List.setIfInBounds_toArray, List.set_cons_zero, List.set_cons_succ]
  refine wpAnyL_free (i := 6) (v := ?_) (some 19) rfl rfl (by kernel_rfl) (by kernel_rfl) (by kernel_rfl) (by decide) (fun _ _ _ h => h) (Or.inl ⟨by rfl, ?_⟩) (fun h0 => by assumption) ?_
  rotate_left
  · intro wS
    go_simp
    try with_reducible rfl
  try simp only [Act.put, List.setIfInBounds_toArray, List.set_cons_zero, List.set_cons_succ]
  refine wpAnyL_take (i := 7) (v := ?_) (some 20) rfl rfl (by kernel_rfl) (by kernel_rfl) (by kernel_rfl) (by kernel_rfl) (by kernel_rfl) (fun _ _ _ h => h) (Or.inl ⟨by rfl, ?_⟩) (by assumption) ?_
  rotate_left
  · intro wS hSw
    try dsimp only at hSw
    go_simp
    try with_reducible rfl
  try simp only [Act.put, List.setIfInBounds_toArray, List.set_cons_zero, List.set_cons_succ]
  refine wpAnyL_free (i := 8) (v := ?_) (some 21) rfl rfl (by kernel_rfl) (by kernel_rfl) (by kernel_rfl) (by decide) (fun _ _ _ h => h) (Or.inl ⟨by rfl, ?_⟩) (fun h0 => by assumption) ?_
  rotate_left
  · intro wS
    go_simp
    try with_reducible rfl
  try simp only [Act.put, List.setIfInBounds_toArray, List.set_cons_zero, List.set_cons_succ]
  refine wpAnyL_free (i := 9) (v := ?_) (some 22) rfl rfl (by kernel_rfl) (by kernel_rfl) (by kernel_rfl) (by decide) (fun _ _ _ h => h) (Or.inl ⟨by rfl, ?_⟩) (fun h0 => by assumption) ?_
  rotate_left
  · intro wS
    go_simp
    try with_reducible rfl
  try simp only [Act.put, List.setIfInBounds_toArray, List.set_cons_zero, List.set_cons_succ]
  refine wpAnyL_free (i := 10) (v := ?_) (some 23) rfl rfl (by kernel_rfl) (by kernel_rfl) (by kernel_rfl) (by decide) (fun _ _ _ h => h) (Or.inl ⟨by rfl, ?_⟩) (fun h0 => by assumption) ?_
  rotate_left
  · intro wS
    go_simp
    try with_reducible rfl
  try simp only [Act.put, List.setIfInBounds_toArray, List.set_cons_zero, List.set_cons_succ]
  refine wpAnyL_done (by kernel_rfl) ?_ _
  refine NoPanic.normal ?_
  clear hHeld
  obtain ⟨w1d, hw1d⟩ : ∃ w1d, w1.drew = w1d := ⟨_, rfl⟩
  have HE2 := Lib.hid (HE1.out.drew)
  rw [hw1d] at HE2
  have HV2 : Hid (OwnRow w1d B (.slice (some ⟨vb, 0, none⟩) u cv) (solV R c u 0)) := Lib.hid (by rw [← hw1d]; exact HV1.out.below (Below.refl _ _).drew)
  have HO2 : Hid (Only (fun q => q = vb ∨ w.heap.size ≤ q) w w1d) := Lib.hid (by rw [← hw1d]; exact HO1.out.drew)
  rw [show w1.drew = w1d from hw1d]
  clear hw1d y2 y3
  try simp only [ite_self]
  go_wp2
  go_loopw [23] (fun v wr => ∃ k : Nat, k ≤ d ∧ v = .int .i64 k ∧ OwnRow wr B (.slice (some ⟨vb, 0, none⟩) u cv) (solV R c u k) ∧ Only (fun q => q = vb ∨ w.heap.size ≤ q) w wr) (fun v _ => d - (intOf v).toNat)
  case atStart => exact ⟨0, Nat.zero_le _, rfl, HV2.out, HO2.out⟩
  case round =>
    obtain ⟨k, hk, rfl, hv, ho⟩ := hrel
    have HV := Lib.hid hv
    have HOV := Lib.hid ho
    have HEK := Lib.hid (HE.out.onlyV ho (by rintro (h | h); exact hne.1 h.symm; have := HE.out.heb; omega) (by rintro (h | h); exact hne.2.1 h.symm; have := HE.out.hrb; omega) (by rintro (h | h); exact hne.2.2 h.symm; have := HE.out.rows.inn; omega))
    clear hv ho
    by_cases hlt : k < d
    · have hkd : (k : Int) < (d : Int) := by omega
      have hkn : k < n := by omega
      obtain ⟨hgl, hlow⟩ := HGD.out k hkn
      have hfit := HEK.out.rows.fits hkn
      have e0 := HEK.out.rows.at_ k hkn
      obtain ⟨so, hso⟩ : ∃ so, s k * l = so := ⟨_, rfl⟩
      obtain ⟨r, hr⟩ : ∃ r, intN (R k) u = r := ⟨_, rfl⟩
      obtain ⟨ck, hck⟩ : ∃ ck, c k = ck := ⟨_, rfl⟩
      rw [hso] at e0 hfit
      have HAT : Hid (∀ j, j < l → F (so + j) = intN (R k) j) := Lib.hid fun j hj => by
        rw [← HEK.out.eq k hkn, rowAtF_at hj, hso]
      have HFLAT := Lib.hid HEK.out.rows.flat
      have HRA : Hid (RowAt wr (.slice (some ⟨g, so, none⟩) l l) (R k)) := Lib.hid (by
        unfold RowAt
        rw [hgl]
        refine ⟨_, _, rfl, by omega, fun _ => ⟨g, so, rfl, fun j hj => ?_⟩⟩
        have e := HFLAT.out.1 (so + j) (by omega)
        rw [HAT.out j hj] at e
        exact e)
      have htl : ((R k).take u).length = u := by rw [List.length_take, hgl]; omega
      have HRU : Hid (RowAt wr (.slice (some ⟨g, so, none⟩) u l) ((R k).take u)) := Lib.hid (by
        unfold RowAt
        rw [htl]
        refine ⟨_, _, rfl, by omega, fun _ => ⟨g, so, rfl, fun j hj => ?_⟩⟩
        have e := HFLAT.out.1 (so + j) (by omega)
        rw [HAT.out j (by omega)] at e
        show wr.cell? ⟨g, so + j, none⟩ = some (.int .i64 (intN ((R k).take u) j))
        rw [intN_take hj]
        exact e)
      have x1 : wr.cell? ⟨eb, 1, none⟩ = some (.int .i64 (u : Int)) := HEK.out.box.c 1 rfl
      have x2 : wr.cell? ⟨g, so + u, none⟩ = some (.int .i64 r) := by
        have e := HFLAT.out.1 (so + u) (by omega)
        rw [HAT.out u hul, hr] at e
        exact e
      have HFV : Hid (firstV (R k) = (ck : Int)) := Lib.hid (by rw [HPV.out.firstW hd hlt (by omega), hck])
      have hcku : ck < u := by rw [← hck]; exact HPV.out.lt k hlt
      have hcki : (ck : Int) < (u : Int) := by omega
      have HSV : Hid ((solV R c u k).set ck r = solV R c u (k + 1)) := Lib.hid (by rw [← hr, ← hck]; rfl)
      have HL1 : Hid (Low3 ((R k).take u)) := Lib.hid ((hlow.take u).low3 (by decide))
      have HL2 : Hid (Low3 (solV R c u k)) := Lib.hid ((solV_low (by decide) (fun i hi => (HGD.out i (by omega)).2.any (by decide) u)).low3 (by decide : (3 : Int) ≤ 3))
      have HLN : Hid (((R k).take u).length = (solV R c u k).length) := Lib.hid (by rw [htl, solV_len])
      have HL12 : Hid (((R k).take u).length ≤ 12) := Lib.hid (by omega)
      have HDOT : Hid (dotK ((R k).take u) (solV R c u k) ((R k).take u).length % 3 = 0) := Lib.hid (by rw [htl, HPV.out.others hd hlt]; rfl)
      have HVR := Lib.hid HV.out.rowAt
      have hrl := hlow.any (by decide) u
      rw [hr] at hrl
      have hul2 : (u : Int) < (l : Int) := by omega
      have hul3 : (u : Int) ≤ (l : Int) := by omega
      have hw0 : IntKind.i64.wrap r = r := IntWalk.i64_in _ (by omega)
      have hw1 : IntKind.i64.wrap (r + 3) = r + 3 := IntWalk.i64_in _ (by omega)
      have hm0 : Int.tmod (r + 3) 3 = r := by rw [Int.tmod_eq_emod_of_nonneg (by omega)]; omega
      clear hgl hlow hfit hso hr hck htl
      go_wp2_with fail
      refine (sumOfM 3 _ _ _ ((R k).take u) _ _ _ (solV R c u k) 0 _ HRU.out HVR.out HLN.out HPP.out HL1.out HL2.out HL12.out HDOT.out).mono ?_
      rintro e w3 ⟨rfl, rfl⟩
      go_wp2_with fail
      refine wp_region_noPanic ?_
      refine wp_region_late (S := (fun w' => w'.cell? ⟨eb, 1, none⟩ = some (.int .i64 (u : Int)) ∧ w'.cell? ⟨g, so + u, none⟩ = some (.int .i64 r) ∧ Below wr.heap.size wr w')) [17] (by kernel_rfl) ?_ (fun hHeld => ?_)
      · exact ⟨x1, x2, (QW.refl _).drew.below _⟩
      refine wpAnyL_free (i := 0) (v := ?_) (some 36) rfl rfl (by kernel_rfl) (by kernel_rfl) (by kernel_rfl) (by decide) (fun _ _ _ h => h) (Or.inl ⟨by rfl, ?_⟩) (fun h0 => by assumption) ?_
      rotate_left
      · intro wS
        go_simp
        try with_reducible rfl
      try simp only [Act.put, List.setIfInBounds_toArray, List.set_cons_zero, List.set_cons_succ]
      refine wpAnyL_free (i := 1) (v := ?_) (some 37) rfl rfl (by kernel_rfl) (by kernel_rfl) (by kernel_rfl) (by decide) (fun _ _ _ h => h) (Or.inl ⟨by rfl, ?_⟩) (fun h0 => by assumption) ?_
      rotate_left
      · intro wS
        go_simp
        try with_reducible rfl
      try simp only [Act.put, List.setIfInBounds_toArray, List.set_cons_zero, List.set_cons_succ]
      refine wpAnyL_free (i := 3) (v := ?_) (some 39) rfl rfl (by kernel_rfl) (by kernel_rfl) (by kernel_rfl) (by decide) (fun _ _ _ h => h) (Or.inl ⟨by rfl, ?_⟩) (fun h0 => by assumption) ?_
      rotate_left
      · intro wS
        go_simp
        try with_reducible rfl
      try simp only [Act.put, List.setIfInBounds_toArray, List.set_cons_zero, List.set_cons_succ]
      refine wpAnyL_free (i := 4) (v := ?_) (some 40) rfl rfl (by kernel_rfl) (by kernel_rfl) (by kernel_rfl) (by decide) (fun _ _ _ h => h) (Or.inl ⟨by rfl, ?_⟩) (fun h0 => by assumption) ?_
      rotate_left
      · intro wS
        go_simp
        try with_reducible rfl
      try simp only [Act.put, List.setIfInBounds_toArray, List.set_cons_zero, List.set_cons_succ]
      refine wpAnyL_free (i := 5) (v := ?_) (some 41) rfl rfl (by kernel_rfl) (by kernel_rfl) (by kernel_rfl) (by decide) (fun _ _ _ h => h) (Or.inl ⟨by rfl, ?_⟩) (fun h0 => by assumption) ?_
      rotate_left
      · intro wS
        go_simp
        try with_reducible rfl
      try simp only [Act.put, List.setIfInBounds_toArray, List.set_cons_zero, List.set_cons_succ]
      refine wpAnyL_free (i := 6) (v := ?_) (some 42) rfl rfl (by kernel_rfl) (by kernel_rfl) (by kernel_rfl) (by decide) (fun _ _ _ h => h) (Or.inl ⟨by rfl, ?_⟩) (fun h0 => by assumption) ?_
      rotate_left
      · intro wS
        go_simp
        try with_reducible rfl
      try simp only [Act.put, List.setIfInBounds_toArray, List.set_cons_zero, List.set_cons_succ]
      refine wpAnyL_take (i := 7) (v := ?_) (some 43) rfl rfl (by kernel_rfl) (by kernel_rfl) (by kernel_rfl) (by kernel_rfl) (by kernel_rfl) (fun _ _ _ h => h) (Or.inl ⟨by rfl, ?_⟩) (by assumption) ?_
      rotate_left
      · intro wS hSw
        try dsimp only at hSw
        go_simp
        try with_reducible rfl
      try simp only [Act.put, List.setIfInBounds_toArray, List.set_cons_zero, List.set_cons_succ]
      refine wpAnyL_free (i := 8) (v := ?_) (some 44) rfl rfl (by kernel_rfl) (by kernel_rfl) (by kernel_rfl) (by decide) (fun _ _ _ h => h) (Or.inl ⟨by rfl, ?_⟩) (fun h0 => by assumption) ?_
      rotate_left
      · intro wS
        go_simp
        try with_reducible rfl
      try simp only [Act.put, List.setIfInBounds_toArray, List.set_cons_zero, List.set_cons_succ]
      refine wpAnyL_take (i := 9) (v := ?_) (some 45) rfl rfl (by kernel_rfl) (by kernel_rfl) (by kernel_rfl) (by kernel_rfl) (by kernel_rfl) (fun _ _ _ h => h) (Or.inl ⟨by rfl, ?_⟩) (by assumption) ?_
      rotate_left
      · intro wS hSw
        try dsimp only at hSw
        go_simp
        try with_reducible rfl
      try simp only [Act.put, List.setIfInBounds_toArray, List.set_cons_zero, List.set_cons_succ]
      refine wpAnyL_free (i := 10) (v := ?_) (some 46) rfl rfl (by kernel_rfl) (by kernel_rfl) (by kernel_rfl) (by decide) (fun _ _ _ h => h) (Or.inl ⟨by rfl, ?_⟩) (fun h0 => by assumption) ?_
      rotate_left
      · intro wS
        go_simp
        try with_reducible rfl
      try simp only [Act.put, List.setIfInBounds_toArray, List.set_cons_zero, List.set_cons_succ]
      refine wpAnyL_free (i := 11) (v := ?_) (some 47) rfl rfl (by kernel_rfl) (by kernel_rfl) (by kernel_rfl) (by decide) (fun _ _ _ h => h) (Or.inl ⟨by rfl, ?_⟩) (fun h0 => by assumption) ?_
      rotate_left
      · intro wS
        go_simp
        try with_reducible rfl
      try simp only [Act.put, List.setIfInBounds_toArray, List.set_cons_zero, List.set_cons_succ]
      refine wpAnyL_free (i := 12) (v := ?_) (some 48) rfl rfl (by kernel_rfl) (by kernel_rfl) (by kernel_rfl) (by decide) (fun _ _ _ h => h) (Or.inl ⟨by rfl, ?_⟩) (fun h0 => by assumption) ?_
      rotate_left
      · intro wS
        go_simp
        try with_reducible rfl
      try simp only [Act.put, List.setIfInBounds_toArray, List.set_cons_zero, List.set_cons_succ]
      refine wpAnyL_free (i := 13) (v := ?_) (some 49) rfl rfl (by kernel_rfl) (by kernel_rfl) (by kernel_rfl) (by decide) (fun _ _ _ h => h) (Or.inl ⟨by rfl, ?_⟩) (fun h0 => by assumption) ?_
      rotate_left
      · intro wS
        go_simp
        try with_reducible rfl
      try simp only [Act.put, List.setIfInBounds_toArray, List.set_cons_zero, List.set_cons_succ]
      refine wpAnyL_free (i := 14) (v := ?_) (some 50) rfl rfl (by kernel_rfl) (by kernel_rfl) (by kernel_rfl) (by decide) (fun _ _ _ h => h) (Or.inl ⟨by rfl, ?_⟩) (fun h0 => by assumption) ?_
      rotate_left
      · intro wS
        go_simp
        try with_reducible rfl
      try simp only [Act.put, List.setIfInBounds_toArray, List.set_cons_zero, List.set_cons_succ]
      refine wpAnyL_free (i := 15) (v := ?_) (some 51) rfl rfl (by kernel_rfl) (by kernel_rfl) (by kernel_rfl) (by decide) (fun _ _ _ h => h) (Or.inl ⟨by rfl, ?_⟩) (fun h0 => by assumption) ?_
      rotate_left
      · intro wS
        go_simp
        try with_reducible rfl
      try simp only [Act.put, List.setIfInBounds_toArray, List.set_cons_zero, List.set_cons_succ]
      refine wpAnyL_ready (rs := [2]) (by kernel_rfl) (by simp) ?_
      refine AllReadyL.cons rfl (fun K hK => ?_) AllReadyL.nil
      go_simp; go_at_call 143; refine (beginOfC _ _ _ (HRA.out.below hHeld.2.2)).mono ?_; rw [HFV.out]; rintro e w4 ⟨rfl, rfl⟩
      refine hK.out _ _ ?_ (fun hHeld => ?_)
      · exact hHeld
      clear hK K
      try simp only [Act.put, List.setIfInBounds_toArray, List.set_cons_zero, List.set_cons_succ]
      refine wpAnyL_free (i := 16) (v := ?_) (some 52) rfl rfl (by kernel_rfl) (by kernel_rfl) (by kernel_rfl) (by decide) (fun _ _ _ h => h) (Or.inl ⟨by rfl, ?_⟩) (fun h0 => by assumption) ?_
      rotate_left
      · intro wS
        go_simp
        try with_reducible rfl
      try simp only [Act.put, List.setIfInBounds_toArray, List.set_cons_zero, List.set_cons_succ]
      refine wpAnyL_ready (rs := [17]) (by kernel_rfl) (by simp) ?_
      refine AllReadyL.last rfl (by kernel_rfl) (fun K hK => ?_) AllReadyL.nil
      have HB5 := Lib.hid hHeld.2.2
      have hfl5 := HV.out.below HB5.out
      have ex5 := hfl5.cell_of ck (by rw [solV_len]; exact hcku)
      have fz5 := hfl5.free ck
      have HF5 := Lib.hid (hfl5.set ck r)
      clear hfl5
      go_simp
      refine hK.out _ _ ?_
      clear hK K
      try simp only [Act.put, List.setIfInBounds_toArray, List.set_cons_zero, List.set_cons_succ]
      refine wpAnyL_done (by kernel_rfl) ?_ _
      refine NoPanic.normal ?_
      have HO6 := Lib.hid ((HOV.out.trans (HB5.out.only)).setCell (p := ⟨vb, ck, none⟩) (Or.inl rfl) (.int .i64 r))
      clear hHeld ex5 fz5 x1 x2
      go_wp2
      go_roundw
      case rel => exact ⟨k + 1, by omega, by go_num, by rw [← HSV.out]; exact HF5.out, HO6.out⟩
      case measure => simp [intOf]; omega
    · obtain rfl : k = d := by omega
      go_wp2
      go_end0
      exact ⟨rfl, HV.out, HOV.out⟩

theorem completeP (B eb rb g n l u d vb cv : Nat) (s : Nat → Nat) (p : Int) (F : Nat → Int) (R : Nat → List Int) (c : Nat → Nat) (w : World) (hp : PrimeP p) (h : ElimAt w eb rb g n l u d s p F R) (hul : u < l) (hd : d ≤ n) (hn : n ≤ 24) (hu : u ≤ 12) (hpv : Piv n u R d c) (hgd : GoodR p n l R) (hv : OwnRow w B (.slice (some ⟨vb, 0, none⟩) u cv) (solV R c u 0)) (hne : vb ≠ eb ∧ vb ≠ rb ∧ vb ≠ g) :
    Calls Try.prog 92 #[.pointer (some ⟨eb, 0, none⟩), .slice (some ⟨vb, 0, none⟩) u cv] w fun e w' => e = .returned (.tuple #[]) ∧ OwnRow w' B (.slice (some ⟨vb, 0, none⟩) u cv) (solV R c u d) ∧ Only (fun q => q = vb ∨ w.heap.size ≤ q) w w' := by
  rcases hp with rfl | rfl
  · exact complete2 B eb rb g n l u d vb cv s F R c w h hul hd hn hu hpv hgd hv hne
  · exact complete3 B eb rb g n l u d vb cv s F R c w h hul hd hn hu hpv hgd hv hne

set_option linter.unusedSimpArgs false in
set_option maxHeartbeats 4000000 in
set_option maxRecDepth 100000 in
theorem implSolveSystem (p u : Int) (a : Option Addr) (n c : Nat) (rs : List (Int × List Int)) (zs : List Int) (cd : Int) (w : World) (h : EqsAt w (.slice a n c) rs) (hi : SolveSystemIs p u rs zs cd) :
    Calls Try.prog 32 #[.agg #[.int .i64 p, .int .i64 u, .slice a n c]] w (MadeRow2 w zs cd) := by
  have HBX := Lib.hid (Box.new 30 w #[.int .i64 p, .int .i64 u, .slice a n c])
  have HW : Hid (Below w.heap.size w (w.alloc (.cells #[.int .i64 p, .int .i64 u, .slice a n c] 30))) := Lib.hid ((Below.refl _ _).alloc (Nat.le_refl _) _)
  have HEQ := Lib.hid (h.below HW.out)
  have HI := Lib.hid hi
  have x0 := HBX.out.c 0 rfl
  have x1 := HBX.out.c 1 rfl
  have x2 := HBX.out.c 2 rfl
  clear h hi
  go_enter Try.func32, Try.ntmps32
  by_cases hok : SysOk p u rs
  · have HOK := Lib.hid hok
    obtain ⟨un, rfl⟩ := hok.unat
    have hn24 := hok.2.2.1
    have hu12 : un ≤ 12 := by have := hok.2.1; unfold InP at this; omega
    clear hok
    go_wp2_with fail
    refine (implValidSystem _ _ _ _ _ rs true _ HEQ.out (Tells.yes HOK.out)).mono ?_
    rintro e w2 ⟨rfl, hb2⟩
    have y0 := below_cell hb2 x0
    have y1 := below_cell hb2 x1
    have y2 := below_cell hb2 x2
    have HEQ2 := Lib.hid (HEQ.out.below hb2)
    have HW2 := Lib.hid (HW.out.trans (hb2.mono HW.out.size))
    clear hb2 x0 x1 x2
    go_wp2_with fail
    refine (eliminationOfC p un a n c rs _ HEQ2.out HOK.out).mono ?_
    rintro e w3 ⟨eb, rb, g, s, F, rfl, he, hge, _, hebe, hb3⟩
    have HE := Lib.hid he
    have HW3 := Lib.hid (HW2.out.trans (hb3.mono HW2.out.size))
    have v1 : w3.drew.cell? ⟨w.heap.size, 1, none⟩ = some (.int .i64 (un : Int)) := below_cell hb3 y1
    have HGD := Lib.hid HOK.out.good
    have HPV := Lib.hid (sysOk_piv HOK.out)
    have hdn := HOK.out.dn
    have HP := Lib.hid HOK.out.1
    have HI2 : Hid ((NoAns p un rs → cd = 6 ∧ zs = []) ∧ (¬ NoAns p un rs → cd = 0 ∧ zs = solV (elimE p rs.length (row0 rs) un).1 (pivE (elimE p rs.length (row0 rs) un).1 un) un (elimE p rs.length (row0 rs) un).2)) := Lib.hid (by
      rcases HI.out with ⟨_, h2, rfl, rfl⟩ | ⟨_, h2, rfl, rfl⟩ | ⟨h1, _⟩
      · exact ⟨fun h => absurd h h2, fun _ => ⟨rfl, rfl⟩⟩
      · exact ⟨fun _ => ⟨rfl, rfl⟩, fun h => absurd h2 h⟩
      · exact absurd HOK.out h1)
    unfold NoAns at HI2
    clear he hb3 y0 y1 y2
    obtain ⟨S, hS⟩ : ∃ S, elimE p rs.length (row0 rs) un = S := ⟨_, rfl⟩
    obtain ⟨R, d⟩ := S
    rw [hS] at hdn HGD HPV HI2 HE
    clear hS
    obtain ⟨b, hb⟩ := Tells.exists (¬ ∃ j, d ≤ j ∧ j < rs.length ∧ intN (R j) un ≠ 0)
    have HB := Lib.hid hb
    clear hb
    go_wp2_with fail
    refine (hasAnswersC eb rb g rs.length (un + 1 + rs.length) un d s p F R b _ HE.out (by omega) hdn (by omega) HB.out).mono ?_
    rintro e w4 ⟨rfl, rfl⟩
    cases b with
    | true =>
      obtain ⟨hcd, hzs⟩ := HI2.out.2 (HB.out.1 rfl)
      have HCD := Lib.hid hcd
      have HZS := Lib.hid hzs
      have hmk := make_row un (by omega) w3.drew
      have hOZ := own_zeros w3.drew w3.drew.heap.size un (Nat.le_refl _) (by omega)
      have HVZ : Hid (OwnRow (w3.drew.alloc (.cells (Array.replicate un (Value.int .i64 0)) 2)) w3.drew.heap.size (.slice (some ⟨w3.drew.heap.size, 0, none⟩) un un) (solV R (pivE R un) un 0)) := Lib.hid hOZ
      have HBZ := Lib.hid ((Below.refl w3.drew.heap.size w3.drew).alloc (Nat.le_refl _) (.cells (Array.replicate un (Value.int .i64 0)) 2))
      obtain ⟨w5, hw5⟩ : ∃ w5, w3.drew = w5 := ⟨_, rfl⟩
      have HE5 := Lib.hid HE.out.drew
      have HW5 := Lib.hid HW3.out.drew
      rw [hw5] at hmk HVZ HBZ HE5 v1 HW5
      rw [show w3.drew = w5 from hw5]
      clear hcd hzs hOZ hw5
      have HE6 := Lib.hid (HE5.out.below HBZ.out)
      have HNE : Hid (w5.heap.size ≠ eb ∧ w5.heap.size ≠ rb ∧ w5.heap.size ≠ g) := Lib.hid ⟨by have := HE5.out.heb; omega, by have := HE5.out.hrb; omega, by have := HE5.out.rows.inn; omega⟩
      go_wp2_with fail
      refine (completeP _ eb rb g rs.length (un + 1 + rs.length) un d w5.heap.size un s p F R (pivE R un) _ HP.out HE6.out (by omega) hdn hn24 hu12 HPV.out HGD.out HVZ.out HNE.out).mono ?_
      rintro e w6 ⟨rfl, ho6, hn6⟩
      have HWF := Lib.hid (HW5.out.trans (HBZ.out.mono HW5.out.size) |>.trans (hn6.below (Nat.le_trans HW5.out.size HBZ.out.size) (fun q hq => by have h5 := HW5.out.size; have h6 := HBZ.out.size; omega)))
      have HFF : Hid (OwnRow w6 w.heap.size (.slice (some ⟨w5.heap.size, 0, none⟩) un un) zs) := Lib.hid (by rw [HZS.out]; exact ho6.mono HW5.out.size)
      clear ho6 hn6 hmk v1
      go_wp2
      go_ret2
      exact ⟨some ⟨w5.heap.size, 0, none⟩, un, un, by rw [HCD.out]; rfl, HFF.out.full, HWF.out⟩
    | false =>
      have hnn : ∃ j, d ≤ j ∧ j < rs.length ∧ intN (R j) un ≠ 0 := Classical.not_not.1 fun h => absurd (HB.out.2 h) (by simp)
      obtain ⟨rfl, rfl⟩ := HI2.out.1 hnn
      clear v1 hnn
      go_wp2
      go_ret2
      exact ⟨_, _, _, rfl, OwnRowE.nil _ _ _ (Nat.le_refl _), HW3.out.drew⟩
  · have HOK := Lib.hid hok
    obtain ⟨rfl, rfl⟩ : zs = [] ∧ cd = 1 := by
      rcases HI.out with ⟨h1, _⟩ | ⟨h1, _⟩ | ⟨_, rfl, rfl⟩
      · exact absurd h1 hok
      · exact absurd h1 hok
      · exact ⟨rfl, rfl⟩
    clear hok
    go_wp2_with fail
    refine (implValidSystem _ _ _ _ _ rs false _ HEQ.out (Tells.no HOK.out)).mono ?_
    rintro e w2 ⟨rfl, hb2⟩
    have HW2 := Lib.hid (HW.out.trans (hb2.mono HW.out.size))
    clear hb2
    go_wp2
    go_ret2
    exact ⟨_, _, _, rfl, OwnRowE.nil _ _ _ (Nat.le_refl _), HW2.out⟩

end Go.Proofs.Ytnbgpeoceejolaa
