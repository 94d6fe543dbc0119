/- Contract of the Kernel's test (the guard is held). -/
import Derived.Test.YtaicdjhblbobbaaGreatGAsk
namespace Go.Proofs.YtaicdjhblbobbaaGreat
open Go.RowKit Go.Lib

section
variable {w : World} {kb tb mb : Nat} {g : Int} {P : Nat → Prop} {ι : Nat → Nat} {s : DS} {rv wv : Nat → Value} {qv : Value}
set_option maxHeartbeats 4000000 in
set_option maxRecDepth 100000 in
theorem test_any (h : KV w kb tb mb g P ι s rv wv qv) (p d k f l : Int) :
    Calls Tryz.prog 47 #[.pointer (some ⟨kb, 0, none⟩), .int .i64 p, .int .i64 d, .int .i64 k, .int .i64 f, .int .i64 l] w fun e w' => e = .returned (.tuple #[.int .i64 (s.test0 p d k f l).1, .int .i64 (s.test0 p d k f l).2]) ∧ Below w.heap.size w w' := by
  by_cases he : s.readK p d k f l 1 = 0
  · obtain ⟨o, h1, h2, h3, h4, h5⟩ := readK_zero he
    have hO3 := h.sm.o o
    have HR := Hid.mk (read_ok h p d k f l 1 h1 h2 h3 h4 h5)
    have HC := Hid.mk (fun (W : World) (hb : Below w.heap.size w W) => h.pair hb (s.O o) hO3)
    have HB := Hid.mk (fun (W : World) (hb : Below w.heap.size w W) => Biters_any (v := rv (s.O o)) ⟨p, k, fromS f l, toS f l⟩ (own_below (h.r (s.O o) hO3) hb) (by have := h.sm.len (s.O o); omega))
    rw [holders_eq (h.sm.rp (s.O o))] at HB
    have HK0 : Hid (s.test0 p d k f l = match holders (s.R (s.O o)) ⟨p, k, fromS f l, toS f l⟩ with | [] => (-1, 0) | q :: _ => (q, 0)) := by show _ = _; unfold DS.test0; rw [if_neg (by simpa using he), h2]; rfl
    rw [HK0.out]
    obtain ⟨ra, rc, hra⟩ := own_form (h.r (s.O o) hO3)
    obtain ⟨wa, wc, hwa⟩ := own_form (h.wr (s.O o) hO3)
    rw [hra] at HC HB
    rw [hwa] at HC
    have hkl := h.lt
    generalize holders (s.R (s.O o)) ⟨p, k, fromS f l, toS f l⟩ = hs at *
    generalize (s.R (s.O o)).length = rl at *
    generalize (renW ι (s.W (s.O o))).length = wl at *
    generalize s.O o = i at *
    generalize fromS f l = fr at *
    generalize toS f l = to at *
    have hi0 : (0 : Int) ≤ (i : Int) := by omega
    have hi3 : (i : Int) < 3 := by omega
    clear h he h1 h2 h3 h4 h5 HK0 hra hwa
    go_enter Tryz.func47, Tryz.ntmps47
    go_upto_region 4 with (go_at_call 72; refine HR.out.mono ?_; rintro e w1 ⟨rfl, hb1⟩; have hz1 := hb1.size; have HB1 := Hid.mk hb1; clear hb1)
    obtain ⟨cr, cw⟩ := HC.out _ HB1.out
    have hkw : kb < w1.heap.size := by omega
    go_region_held3 (fun u => u.cell? ⟨kb, 3 + i * 2, none⟩ = some (.slice ra rl rc) ∧ u.cell? ⟨w1.heap.size, 0, none⟩ = some (.int .i64 p) ∧ u.cell? ⟨w1.heap.size, 1, none⟩ = some (.int .i64 k) ∧ u.cell? ⟨w1.heap.size, 2, none⟩ = some (.int .i64 fr) ∧ u.cell? ⟨w1.heap.size, 3, none⟩ = some (.int .i64 to)) (simp [go_sem, World.cell?_alloc_past, *])
      (first
        | (go_at_call 77; refine (HB.out _ ?_).mono ?_; exact (HB1.out.alloc hz1 _).drew; rintro e w2 ⟨v2, rfl, ho2, hb2⟩; obtain ⟨a2, c2, rfl⟩ := own_form ho2; have HB2 : Hid (Below w.heap.size w w2) := (HB1.out.alloc hz1 _).drew.trans (hb2.mono (by simp; omega)); have kk := (HC.out _ HB2.out).1; have k0 : w2.cell? ⟨w1.heap.size, 0, none⟩ = some (.int .i64 p) := ((bcells hb2).1 _ _ (by simp)).trans (by simp); have k1 : w2.cell? ⟨w1.heap.size, 1, none⟩ = some (.int .i64 k) := ((bcells hb2).1 _ _ (by simp)).trans (by simp); have k2 : w2.cell? ⟨w1.heap.size, 2, none⟩ = some (.int .i64 fr) := ((bcells hb2).1 _ _ (by simp)).trans (by simp); have k3 : w2.cell? ⟨w1.heap.size, 3, none⟩ = some (.int .i64 to) := ((bcells hb2).1 _ _ (by simp)).trans (by simp); have HO2 := Hid.mk ho2; clear ho2 hb2))
    cases hs with
    | nil =>
      go_wp2
      go_ret2
      exact ⟨rfl, HB2.out⟩
    | cons q t =>
      obtain ⟨gb, rfl, _, _, _, hcell⟩ := own_some HO2.out (by simp)
      have cq : w2.cell? ⟨gb, 0, none⟩ = some (.int .i64 q) := (hcell 0 (by simp)).trans rfl
      have htl : (0 : Int) < ((q :: t).length : Int) := by simp only [List.length_cons]; omega
      generalize (q :: t).length = hl at *
      clear hcell
      go_wp2
      go_ret2
      exact ⟨rfl, HB2.out⟩
  · have HK0 : Hid (s.test0 p d k f l = (0, s.readK p d k f l 1)) := by show _ = _; unfold DS.test0; rw [if_pos he]
    have HR := Hid.mk (read_err h p d k f l 1 he)
    rw [HK0.out]
    generalize s.readK p d k f l 1 = E at *
    have hE : (E != 0) = true := by simpa using he
    clear h he HK0
    go_enter Tryz.func47, Tryz.ntmps47
    go_wp2_with (go_at_call 72; refine HR.out.mono ?_; rintro e w1 ⟨rfl, hb1⟩; have hz1 := hb1.size; have HB1 := Hid.mk hb1; clear hb1)
    go_ret2
    exact ⟨rfl, HB1.out.alloc hz1 _⟩
end
end Go.Proofs.YtaicdjhblbobbaaGreat
