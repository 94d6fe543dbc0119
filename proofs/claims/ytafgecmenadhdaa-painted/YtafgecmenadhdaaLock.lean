/- Contracts of the Kernel's lock and test (the guard is held). -/
import Derived.Test.YtafgecmenadhdaaKern
import Derived.Deep.RegionHeld3
namespace Go.Proofs.Ytafgecmenadhdaa
open Go.RowKit Go.Lib

set_option maxHeartbeats 2000000 in
set_option maxRecDepth 100000 in
theorem lock_err {w : World} {kb tb mb : Nat} {g : Int} {s : KS} (h : KInv w kb tb mb g s) (p d k f l : Int) (he : readE s p d k f l 0 ≠ 0) :
    Calls Try.prog 21 #[.pointer (some ⟨kb, 0, none⟩), .int .i64 p, .int .i64 d, .int .i64 k, .int .i64 f, .int .i64 l] w fun e w' => e = .returned (.int .i64 (readE s p d k f l 0)) ∧ Below w.heap.size w w' := by
  have HR := Hid.mk (read_err h p d k f l 0 he)
  generalize readE s p d k f l 0 = E at *
  have hE : (E != 0) = true := by simpa using he
  clear h he
  go_enter Try.func21, Try.ntmps21
  go_wp2_with (go_at_call 36; refine HR.out.mono ?_; rintro e w' ⟨rfl, hb⟩)
  go_ret
  exact ⟨rfl, hb.alloc hb.size _⟩

set_option maxHeartbeats 4000000 in
set_option maxRecDepth 100000 in
theorem lock_busy {w : World} {kb tb mb b : Nat} {g : Int} {s : KS} (h : KInv w kb tb mb g s) (p d k f l : Int) (hl : liveB s.L p = true) (hf : s.F p d = some b) (hk : kindB k = true) (hs : badS f l = false)
    (hbi : 0 ≤ biterR (s.R (s.O b).toNat) ⟨p, k, fromS f l, toS f l⟩) :
    Calls Try.prog 21 #[.pointer (some ⟨kb, 0, none⟩), .int .i64 p, .int .i64 d, .int .i64 k, .int .i64 f, .int .i64 l] w fun e w' => e = .returned (.int .i64 8) ∧ Below w.heap.size w w' := by
  have HR := Hid.mk (read_ok h p d k f l 0 hl hf hk (by simp [kindB] at hk; omega) hs)
  have ho := h.ok.o p d b hf
  have hlen := h.ok.len (s.O b).toNat
  obtain ⟨i, hi⟩ : ∃ i : Nat, s.O b = (i : Int) := ⟨(s.O b).toNat, by omega⟩
  rw [hi] at HR hbi hlen ho
  simp only [Int.toNat_natCast] at hbi hlen
  have hi3 : i < 3 := by omega
  generalize hF : fromS f l = fr at *
  generalize hT : toS f l = to at *
  obtain ⟨v, hv, hrd⟩ := h.file i hi3
  have hlt := h.lt
  have hii : (i : Int) < 3 := by omega
  have hi0 : (0 : Int) ≤ (i : Int) := by omega
  have HB := Hid.mk (fun (W : World) (hW : Below w.heap.size w W) => Biter_any v (s.R i) p k fr to W (hrd.below hW) (by omega))
  have HBI := Hid.mk hbi
  clear h hl hf hk hs hrd hbi hi hF hT ho
  go_enter Try.func21, Try.ntmps21
  go_wp2_with (go_at_call 36; refine HR.out.mono ?_; rintro e w' ⟨rfl, hb⟩; have HW := Hid.mk hb; have hv' : w'.cell? ⟨kb, 3 + i, none⟩ = some v := ((bcell hb).1 _ _ hlt).trans hv; have hz := hb.size; clear hb)
  have hkw : kb < w'.heap.size := by omega
  have hbp := HBI.out
  go_region_held3 (fun u => u.cell? ⟨kb, 3 + i, none⟩ = some v ∧ u.cell? ⟨w'.heap.size, 0, none⟩ = some (.int .i64 p) ∧ u.cell? ⟨w'.heap.size, 1, none⟩ = some (.int .i64 k) ∧ u.cell? ⟨w'.heap.size, 2, none⟩ = some (.int .i64 fr) ∧ u.cell? ⟨w'.heap.size, 3, none⟩ = some (.int .i64 to)) (simp [go_sem, World.cell?_alloc_past, *])
    (first
      | (go_at_call 37; refine (HB.out _ ?_).mono ?_; exact (HW.out.alloc hz _).drew; rintro e w2 ⟨rfl, hb2⟩; have kk : w2.cell? ⟨kb, 3 + i, none⟩ = some v := ((bcell hb2).1 _ _ (by simp <;> omega)).trans ((World.cell?_alloc_past (w := w') _ kb (3 + i) hkw).trans hv'); have kb0 : w2.cell? ⟨w'.heap.size, 0, none⟩ = some (.int .i64 p) := ((bcell hb2).1 _ _ (by simp)).trans (by simp); have kb1 : w2.cell? ⟨w'.heap.size, 1, none⟩ = some (.int .i64 k) := ((bcell hb2).1 _ _ (by simp)).trans (by simp); have kb2 : w2.cell? ⟨w'.heap.size, 2, none⟩ = some (.int .i64 fr) := ((bcell hb2).1 _ _ (by simp)).trans (by simp); have kb3 : w2.cell? ⟨w'.heap.size, 3, none⟩ = some (.int .i64 to) := ((bcell hb2).1 _ _ (by simp)).trans (by simp); have H2 := Hid.mk hb2; have hz2 : w'.heap.size + 1 ≤ w2.heap.size := (by have := hb2.size; simpa using this); clear hb2))
  go_wp2
  go_ret
  exact ⟨rfl, (HW.out.alloc hz _).drew.trans (H2.out.mono (by simp <;> omega))⟩

theorem Good.form {base : Nat} {W : World} {v : Value} {rest : List Rn} (h : Good base W v rest) : ∃ a c, v = .slice a rest.length c := by
  rcases h.own.2 with ⟨hv, h0⟩ | ⟨g, cap, cur, hv, _⟩
  · exact ⟨none, 0, by rw [hv, h0]⟩
  · exact ⟨_, _, hv⟩

def updR (R : Nat → List Rn) (i : Nat) (l : List Rn) : Nat → List Rn := fun j => if j = i then l else R j
theorem KInv.setFile {w : World} {kb tb mb : Nat} {g : Int} {s : KS} (h : KInv w kb tb mb g s) (i : Nat) (hi : i < 3) {v : Value} {l : List Rn} (hv : Reads w v l) (hl : l.length ≤ 12) (hr : ∀ x, x ∈ l → RunOk x) :
    KInv (w.setCell ⟨kb, 3 + i, none⟩ v) kb tb mb g { s with R := updR s.R i l } := by
  obtain ⟨v0, v1, v2, hk, r0, r1, r2⟩ := h.k
  have hkp : Kp [kb, tb, mb] w (w.setCell ⟨kb, 3 + i, none⟩ v) := Kp.setCell (by simp)
  refine ⟨?_, h.t.of_block (Below.heap_setCell _ _ _ _ h.ne1.symm), h.m.of_block (Below.heap_setCell _ _ _ _ h.ne2.symm), fun p d b hf => (h.o p d b hf).kp h hkp, ⟨h.ok.o, h.ok.f, fun j => ?_, fun j x hx => ?_⟩⟩
  · have q0 := r0.kp h hkp
    have q1 := r1.kp h hkp
    have q2 := r2.kp h hkp
    have qv := hv.kp h hkp
    obtain rfl | rfl | rfl : i = 0 ∨ i = 1 ∨ i = 2 := by omega
    · exact ⟨v, v1, v2, by rw [heap_setCell_at hk]; rfl, by simpa [updR] using qv, by simpa [updR] using q1, by simpa [updR] using q2⟩
    · exact ⟨v0, v, v2, by rw [heap_setCell_at hk]; rfl, by simpa [updR] using q0, by simpa [updR] using qv, by simpa [updR] using q2⟩
    · exact ⟨v0, v1, v, by rw [heap_setCell_at hk]; rfl, by simpa [updR] using q0, by simpa [updR] using q1, by simpa [updR] using qv⟩
  · simp only [updR]; split
    · exact hl
    · exact h.ok.len j
  · simp only [updR] at hx
    split at hx
    · exact hr x hx
    · exact h.ok.run j x hx

set_option maxHeartbeats 8000000 in
set_option maxRecDepth 100000 in
theorem lock_table {w : World} {kb tb mb b : Nat} {g : Int} {s : KS} (h : KInv w kb tb mb g s) (p d k f l : Int) (hl : liveB s.L p = true) (hf : s.F p d = some b) (hk : kindB k = true) (hs : badS f l = false)
    (hbi : biterR (s.R (s.O b).toNat) ⟨p, k, fromS f l, toS f l⟩ < 0) (hN : 12 < (setR (s.R (s.O b).toNat) ⟨p, k, fromS f l, toS f l⟩).length) :
    Calls Try.prog 21 #[.pointer (some ⟨kb, 0, none⟩), .int .i64 p, .int .i64 d, .int .i64 k, .int .i64 f, .int .i64 l] w fun e w' => e = .returned (.int .i64 9) ∧ Below w.heap.size w w' := by
  have HR := Hid.mk (read_ok h p d k f l 0 hl hf hk (by simp [kindB] at hk; omega) hs)
  have ho := h.ok.o p d b hf
  have hlen := h.ok.len (s.O b).toNat
  have hbd := bounds_ok hs
  obtain ⟨i, hi⟩ : ∃ i : Nat, s.O b = (i : Int) := ⟨(s.O b).toNat, by omega⟩
  have hrun := h.ok.run i
  rw [hi] at HR hbi hlen ho hN
  simp only [Int.toNat_natCast] at hbi hlen hN
  have hi3 : i < 3 := by omega
  generalize hF : fromS f l = fr at *
  generalize hT : toS f l = to at *
  obtain ⟨v, hv, hrd⟩ := h.file i hi3
  obtain ⟨_, _, cz⟩ := h.cells
  have hlt := h.lt
  have hii : (i : Int) < 3 := by omega
  have hi0 : (0 : Int) ≤ (i : Int) := by omega
  have HB := Hid.mk (fun (W : World) (hW : Below w.heap.size w W) => Biter_any v (s.R i) p k fr to W (hrd.below hW) (by omega))
  have HS := Hid.mk (fun (W : World) (hW : Below w.heap.size w W) => Set_any v (s.R i) p k fr to W (hrd.below hW) (by omega) (fun x hx => by have := hrun x hx; unfold RunOk at this; unfold Rn.sm; omega) (by omega))
  have HBI := Hid.mk hbi
  clear h hl hf hk hs hrd hbi hi hF hT ho hbd hrun
  go_enter Try.func21, Try.ntmps21
  go_wp2_with (go_at_call 36; refine HR.out.mono ?_; rintro e w' ⟨rfl, hb⟩; have HW := Hid.mk hb; have hv' : w'.cell? ⟨kb, 3 + i, none⟩ = some v := ((bcell hb).1 _ _ hlt).trans hv; have hz' : w'.frozen? ⟨kb, 3 + i, none⟩ = false := ((bcell hb).2 _ _ hlt).trans (cz _); have hz := hb.size; clear hb)
  have hkw : kb < w'.heap.size := by omega
  have hbp := HBI.out
  go_region_held3 (fun u => u.cell? ⟨kb, 3 + i, none⟩ = some v ∧ u.cell? ⟨w'.heap.size, 0, none⟩ = some (.int .i64 p) ∧ u.cell? ⟨w'.heap.size, 1, none⟩ = some (.int .i64 k) ∧ u.cell? ⟨w'.heap.size, 2, none⟩ = some (.int .i64 fr) ∧ u.cell? ⟨w'.heap.size, 3, none⟩ = some (.int .i64 to)) (simp [go_sem, World.cell?_alloc_past, *])
    (first
      | (go_at_call 37; refine (HB.out _ ?_).mono ?_; exact (HW.out.alloc hz _).drew; rintro e w2 ⟨rfl, hb2⟩; have kk : w2.cell? ⟨kb, 3 + i, none⟩ = some v := ((bcell hb2).1 _ _ (by simp <;> omega)).trans ((World.cell?_alloc_past (w := w') _ kb (3 + i) hkw).trans hv'); have kz : w2.frozen? ⟨kb, 3 + i, none⟩ = false := ((bcell hb2).2 _ _ (by simp <;> omega)).trans ((World.frozen?_alloc_old w' _ ⟨kb, 3 + i, none⟩ (by simp <;> omega)).trans hz'); have kb0 : w2.cell? ⟨w'.heap.size, 0, none⟩ = some (.int .i64 p) := ((bcell hb2).1 _ _ (by simp)).trans (by simp); have kb1 : w2.cell? ⟨w'.heap.size, 1, none⟩ = some (.int .i64 k) := ((bcell hb2).1 _ _ (by simp)).trans (by simp); have kb2 : w2.cell? ⟨w'.heap.size, 2, none⟩ = some (.int .i64 fr) := ((bcell hb2).1 _ _ (by simp)).trans (by simp); have kb3 : w2.cell? ⟨w'.heap.size, 3, none⟩ = some (.int .i64 to) := ((bcell hb2).1 _ _ (by simp)).trans (by simp); have H2 := Hid.mk hb2; have hz2 : w'.heap.size + 1 ≤ w2.heap.size := (by have := hb2.size; simpa using this); clear hb2))
  go_wp2
  go_region_held3 (fun u => u.cell? ⟨kb, 3 + i, none⟩ = some v ∧ u.cell? ⟨w'.heap.size, 0, none⟩ = some (.int .i64 p) ∧ u.cell? ⟨w'.heap.size, 1, none⟩ = some (.int .i64 k) ∧ u.cell? ⟨w'.heap.size, 2, none⟩ = some (.int .i64 fr) ∧ u.cell? ⟨w'.heap.size, 3, none⟩ = some (.int .i64 to)) (simp [go_sem, *])
    (first
      | (go_at_call 38; refine (HS.out _ ?_).mono ?_; exact ((HW.out.alloc hz _).drew.trans (H2.out.mono (by simp <;> omega))).drew; rintro e w3 ⟨v3, rfl, hg3, hb3⟩; obtain ⟨a3, c3, rfl⟩ := hg3.form; have jk : w3.cell? ⟨kb, 3 + i, none⟩ = some v := ((bcell hb3).1 _ _ (by simp <;> omega)).trans kk; have jz : w3.frozen? ⟨kb, 3 + i, none⟩ = false := ((bcell hb3).2 _ _ (by simp <;> omega)).trans kz; have jb0 : w3.cell? ⟨w'.heap.size, 0, none⟩ = some (.int .i64 p) := ((bcell hb3).1 _ _ (by simp <;> omega)).trans kb0; have jb1 : w3.cell? ⟨w'.heap.size, 1, none⟩ = some (.int .i64 k) := ((bcell hb3).1 _ _ (by simp <;> omega)).trans kb1; have jb2 : w3.cell? ⟨w'.heap.size, 2, none⟩ = some (.int .i64 fr) := ((bcell hb3).1 _ _ (by simp <;> omega)).trans kb2; have jb3 : w3.cell? ⟨w'.heap.size, 3, none⟩ = some (.int .i64 to) := ((bcell hb3).1 _ _ (by simp <;> omega)).trans kb3; have HG3 := Hid.mk hg3; have H3 := Hid.mk hb3; have hz3 : w2.heap.size ≤ w3.heap.size := (by have := hb3.size; simpa using this); clear hb3 hg3))
  go_wp2
  go_ret
  exact ⟨rfl, (((HW.out.alloc hz _).drew.trans (H2.out.mono (by simp <;> omega))).drew).trans (H3.out.mono (by simp <;> omega))⟩

set_option maxHeartbeats 8000000 in
set_option maxRecDepth 100000 in
theorem lock_ok {w : World} {kb tb mb b : Nat} {g : Int} {s : KS} (h : KInv w kb tb mb g s) (p d k f l : Int) (hl : liveB s.L p = true) (hf : s.F p d = some b) (hk : kindB k = true) (hs : badS f l = false)
    (hbi : biterR (s.R (s.O b).toNat) ⟨p, k, fromS f l, toS f l⟩ < 0) (hN : (setR (s.R (s.O b).toNat) ⟨p, k, fromS f l, toS f l⟩).length ≤ 12) (hok : ∀ x, x ∈ setR (s.R (s.O b).toNat) ⟨p, k, fromS f l, toS f l⟩ → RunOk x) :
    Calls Try.prog 21 #[.pointer (some ⟨kb, 0, none⟩), .int .i64 p, .int .i64 d, .int .i64 k, .int .i64 f, .int .i64 l] w fun e w' => e = .returned (.int .i64 0) ∧ KInv w' kb tb mb g { s with R := updR s.R (s.O b).toNat (setR (s.R (s.O b).toNat) ⟨p, k, fromS f l, toS f l⟩) } ∧ Kp [kb] w w' := by
  have HR := Hid.mk (read_ok h p d k f l 0 hl hf hk (by simp [kindB] at hk; omega) hs)
  have ho := h.ok.o p d b hf
  have hlen := h.ok.len (s.O b).toNat
  have hbd := bounds_ok hs
  obtain ⟨i, hi⟩ : ∃ i : Nat, s.O b = (i : Int) := ⟨(s.O b).toNat, by omega⟩
  have hrun := h.ok.run i
  rw [hi] at HR hbi hlen ho hN hok ⊢
  simp only [Int.toNat_natCast] at hbi hlen hN hok ⊢
  have hi3 : i < 3 := by omega
  generalize hF : fromS f l = fr at *
  generalize hT : toS f l = to at *
  obtain ⟨v, hv, hrd⟩ := h.file i hi3
  obtain ⟨_, _, cz⟩ := h.cells
  have hlt := h.lt
  have hii : (i : Int) < 3 := by omega
  have hi0 : (0 : Int) ≤ (i : Int) := by omega
  have HB := Hid.mk (fun (W : World) (hW : Below w.heap.size w W) => Biter_any v (s.R i) p k fr to W (hrd.below hW) (by omega))
  have HS := Hid.mk (fun (W : World) (hW : Below w.heap.size w W) => Set_any v (s.R i) p k fr to W (hrd.below hW) (by omega) (fun x hx => by have := hrun x hx; unfold RunOk at this; unfold Rn.sm; omega) (by omega))
  have HBI := Hid.mk hbi
  have HI := Hid.mk h
  have HO := Hid.mk hok
  clear hok
  clear h hl hf hk hs hrd hbi hi hF hT ho hbd hrun
  go_enter Try.func21, Try.ntmps21
  go_wp2_with (go_at_call 36; refine HR.out.mono ?_; rintro e w' ⟨rfl, hb⟩; have HW := Hid.mk hb; have hv' : w'.cell? ⟨kb, 3 + i, none⟩ = some v := ((bcell hb).1 _ _ hlt).trans hv; have hz' : w'.frozen? ⟨kb, 3 + i, none⟩ = false := ((bcell hb).2 _ _ hlt).trans (cz _); have hz := hb.size; clear hb)
  have hkw : kb < w'.heap.size := by omega
  have hbp := HBI.out
  go_region_held3 (fun u => u.cell? ⟨kb, 3 + i, none⟩ = some v ∧ u.cell? ⟨w'.heap.size, 0, none⟩ = some (.int .i64 p) ∧ u.cell? ⟨w'.heap.size, 1, none⟩ = some (.int .i64 k) ∧ u.cell? ⟨w'.heap.size, 2, none⟩ = some (.int .i64 fr) ∧ u.cell? ⟨w'.heap.size, 3, none⟩ = some (.int .i64 to)) (simp [go_sem, World.cell?_alloc_past, *])
    (first
      | (go_at_call 37; refine (HB.out _ ?_).mono ?_; exact (HW.out.alloc hz _).drew; rintro e w2 ⟨rfl, hb2⟩; have kk : w2.cell? ⟨kb, 3 + i, none⟩ = some v := ((bcell hb2).1 _ _ (by simp <;> omega)).trans ((World.cell?_alloc_past (w := w') _ kb (3 + i) hkw).trans hv'); have kz : w2.frozen? ⟨kb, 3 + i, none⟩ = false := ((bcell hb2).2 _ _ (by simp <;> omega)).trans ((World.frozen?_alloc_old w' _ ⟨kb, 3 + i, none⟩ (by simp <;> omega)).trans hz'); have kb0 : w2.cell? ⟨w'.heap.size, 0, none⟩ = some (.int .i64 p) := ((bcell hb2).1 _ _ (by simp)).trans (by simp); have kb1 : w2.cell? ⟨w'.heap.size, 1, none⟩ = some (.int .i64 k) := ((bcell hb2).1 _ _ (by simp)).trans (by simp); have kb2 : w2.cell? ⟨w'.heap.size, 2, none⟩ = some (.int .i64 fr) := ((bcell hb2).1 _ _ (by simp)).trans (by simp); have kb3 : w2.cell? ⟨w'.heap.size, 3, none⟩ = some (.int .i64 to) := ((bcell hb2).1 _ _ (by simp)).trans (by simp); have H2 := Hid.mk hb2; have hz2 : w'.heap.size + 1 ≤ w2.heap.size := (by have := hb2.size; simpa using this); clear hb2))
  go_wp2
  go_region_held3 (fun u => u.cell? ⟨kb, 3 + i, none⟩ = some v ∧ u.cell? ⟨w'.heap.size, 0, none⟩ = some (.int .i64 p) ∧ u.cell? ⟨w'.heap.size, 1, none⟩ = some (.int .i64 k) ∧ u.cell? ⟨w'.heap.size, 2, none⟩ = some (.int .i64 fr) ∧ u.cell? ⟨w'.heap.size, 3, none⟩ = some (.int .i64 to)) (simp [go_sem, *])
    (first
      | (go_at_call 38; refine (HS.out _ ?_).mono ?_; exact ((HW.out.alloc hz _).drew.trans (H2.out.mono (by simp <;> omega))).drew; rintro e w3 ⟨v3, rfl, hg3, hb3⟩; obtain ⟨a3, c3, rfl⟩ := hg3.form; have jk : w3.cell? ⟨kb, 3 + i, none⟩ = some v := ((bcell hb3).1 _ _ (by simp <;> omega)).trans kk; have jz : w3.frozen? ⟨kb, 3 + i, none⟩ = false := ((bcell hb3).2 _ _ (by simp <;> omega)).trans kz; have jb0 : w3.cell? ⟨w'.heap.size, 0, none⟩ = some (.int .i64 p) := ((bcell hb3).1 _ _ (by simp <;> omega)).trans kb0; have jb1 : w3.cell? ⟨w'.heap.size, 1, none⟩ = some (.int .i64 k) := ((bcell hb3).1 _ _ (by simp <;> omega)).trans kb1; have jb2 : w3.cell? ⟨w'.heap.size, 2, none⟩ = some (.int .i64 fr) := ((bcell hb3).1 _ _ (by simp <;> omega)).trans kb2; have jb3 : w3.cell? ⟨w'.heap.size, 3, none⟩ = some (.int .i64 to) := ((bcell hb3).1 _ _ (by simp <;> omega)).trans kb3; have HG3 := Hid.mk hg3; have H3 := Hid.mk hb3; have hz3 : w2.heap.size ≤ w3.heap.size := (by have := hb3.size; simpa using this); clear hb3 hg3))
  go_wp2
  go_ret
  have hbb := (((HW.out.alloc hz _).drew.trans (H2.out.mono (by simp <;> omega))).drew).trans (H3.out.mono (by simp <;> omega))
  exact ⟨rfl, (HI.out.below hbb).setFile i hi3 HG3.out.reads hN HO.out, (Kp.below hbb).trans (Kp.setCell (by simp))⟩
end Go.Proofs.Ytafgecmenadhdaa
