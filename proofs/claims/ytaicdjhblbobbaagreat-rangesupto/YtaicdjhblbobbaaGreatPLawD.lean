/- The calls of processes, on a Kernel and its Desk. -/
import Derived.Test.YtaicdjhblbobbaaGreatPDeskT
namespace Go.Proofs.YtaicdjhblbobbaaGreat
open Go.RowKit Go.Lib

theorem DS.settle_len (s : DS) : s.settle.2.length ≤ s.Q.length := by
  have h := (DS.settleN_perm s.Q.length s).length_eq
  simp only [List.length_append, List.length_map] at h
  show (DS.settleN s.Q.length s).2.length ≤ _
  omega
theorem DS.ask_len (s : DS) (a : Ask) (w : Bool) : (s.ask a w).2.d.length ≤ s.Q.length := by
  rw [DS.ask_parts]
  (repeat' split) <;> first | exact Nat.zero_le _ | (show (s.take a).1.settle.2.length ≤ _; have := (s.take a).1.settle_len; rw [DS.take_Q] at this; exact this)
theorem DS.step_len {s : DS} (h : s.Bas) (c : Cl) : (s.step c).2.d.length ≤ 1000000 := by
  have hq := ones_le h.qn (fun a ha => live_mem (h.q a ha).1.l)
  cases c with
  | fork p => rw [DS.step_num s _ rfl]; simp
  | opn p f => rw [DS.step_num s _ rfl]; simp
  | dup p d => rw [DS.step_num s _ rfl]; simp
  | test p d k f l => rw [DS.step_num s _ rfl]; simp
  | kill p =>
    simp only [DS.step, DS.kill]
    split
    · simp [rerr]
    · show (s.gone p).settle.2.length ≤ _
      have h1 := (s.gone p).settle_len
      have h2 : (s.gone p).Q.length ≤ s.Q.length := List.length_filter_le _ _
      omega
  | close p d =>
    simp only [DS.step, DS.close]
    split
    · simp [rerr]
    · rename_i o _
      show (s.shut p d o).settle.2.length ≤ _
      have h1 := (s.shut p d o).settle_len
      have h2 : (s.shut p d o).Q = s.Q := rfl
      rw [h2] at h1
      omega
  | lock p d k f l w =>
    simp only [DS.step, DS.lock]
    (repeat' split) <;> first | (simp [rerr]; done) | (have := s.ask_len ⟨p, k, s.O ‹_›, false, ‹_›, fromS f l, toS f l⟩ w; omega)
  | whole p d k w =>
    simp only [DS.step, DS.whole]
    (repeat' split) <;> first | (simp [rerr]; done) | (have := s.ask_len ⟨p, k, s.O ‹_›, true, ‹_›, 0, 0⟩ w; omega)
section
variable {w : World} {wb : Nat} {own : Nat → Nat → Prop} {N M : Nat} {xv yv : Value} {ks ds : List Nat} {ss : List DS} {i kb db : Nat} {s : DS}
set_option maxHeartbeats 8000000 in
set_option maxRecDepth 100000 in
theorem called_fork (h : PI w wb own N M xv yv ks ds ss ss) (_hB : N + 9 ≤ 1000000000) (hN : M + 8 ≤ 10000000) (hk : ks[i]? = some kb) (hd : ds[i]? = some db) (hs : ss[i]? = some s) (K p a b c d : Int) (wt : Bool) (hr : (Cl.fork p).rng) :
    Calls Tryz.prog 66 #[.pointer (some ⟨wb, 0, none⟩), .agg #[.int .i64 1, .int .i64 K, .int .i64 p, .int .i64 a, .int .i64 b, .int .i64 c, .int .i64 d, .bool wt], kptr kb, dkPtr db] w fun r w' => r = .returned (.bool true) ∧ ∃ own', PI w' wb own' (N + 2) (M + 7) xv yv ks ds (ss.set i (s.step (Cl.fork p)).1) (ss.set i (s.step (Cl.fork p)).1) ∧ UB w.heap.size (owned own) (owned own') w w' := by
  have hi := h.inv hk hs
  have HLT : Hid (¬ owned own w.heap.size) := fun ho => by obtain ⟨j, hj⟩ := ho; exact absurd (h.o.lt j _ hj) (Nat.lt_irrefl _)
  have hbx := (Below.refl w.heap.size w).alloc (Nat.le_refl _) (.cells #[.int .i64 1, .int .i64 K, .int .i64 p, .int .i64 a, .int .i64 b, .int .i64 c, .int .i64 d, .bool wt] 77)
  have HD := Hid.mk (h.dnum hi hN hd hs hbx (Cl.fork p) rfl)
  have HKF := Hid.mk (fun w1 own1 (h1 : PI w1 wb own1 N (M + 7) xv yv ks ds ss (ss.set i (s.step (Cl.fork p)).1)) => h1.kcall hk hs (Cl.fork p) hr)
  have hst := DS.step_num s (Cl.fork p) rfl
  have HNX := Hid.mk (heap_alloc_new w (.cells #[.int .i64 1, .int .i64 K, .int .i64 p, .int .i64 a, .int .i64 b, .int .i64 c, .int .i64 d, .bool wt] 77))
  clear h hi hbx hk hd hs hr
  unfold Cl.dfn Cl.dargs dkPtr at HD
  unfold Cl.fn Cl.args kptr rpV at HKF
  unfold kptr dkPtr
  generalize s.step (Cl.fork p) = SS at *
  obtain ⟨s', ⟨re, rn, rd⟩⟩ := SS
  simp only at HD HKF hst ⊢
  subst hst
  go_enter Tryz.func66, Tryz.ntmps66
  go_wp2_with (first
    | (go_at_call 98; refine HD.out.mono ?_; rintro r w1 ⟨rfl, own1, hp1, hub1, hu1⟩; have hz1 := hu1.size; simp at hz1; have hx1b := (hu1.block w.heap.size (by simp) HLT.out).trans HNX.out; have w1c0 : w1.cell? ⟨w.heap.size, 0, none⟩ = some (.int .i64 1) := (by simp only [World.cell?, hx1b]; rfl); have w1c2 : w1.cell? ⟨w.heap.size, 2, none⟩ = some (.int .i64 p) := (by simp only [World.cell?, hx1b]; rfl); have HLT1 : Hid (¬ owned own1 w.heap.size) := (fun ho => HLT.out (hu1.old _ (by simp) ho)); have HX1 := Hid.mk hx1b; have HP1 := Hid.mk hp1; have HUB1 := Hid.mk hub1; clear hp1 hub1 hu1 hx1b)
    | (go_at_call 32; refine (HKF.out w1 own1 HP1.out).mono ?_; rintro r w2 ⟨v2, own2, rfl, hp2, hu2, ho2, hf2⟩; obtain ⟨va, vc, rfl⟩ := own_form ho2; have hz2 := hu2.size; have HP2 := Hid.mk hp2; have HU2 := Hid.mk (UB.of_upd (B := w.heap.size) hu2 (by omega)); clear hp2 hu2 ho2 hf2)
    | (go_at_call 99; refine (number_any _ _ _ _ _).mono ?_; rintro r w3 ⟨rfl, hb3⟩; have HB3 := Hid.mk hb3; clear hb3))
  go_ret
  exact ⟨rfl, own2, (HP2.out.below HB3.out).more (by omega), (HUB1.out.trans HU2.out).trans (UB.of_below HB3.out (by omega))⟩
set_option maxHeartbeats 8000000 in
set_option maxRecDepth 100000 in
theorem called_open (h : PI w wb own N M xv yv ks ds ss ss) (_hB : N + 9 ≤ 1000000000) (hN : M + 8 ≤ 10000000) (hk : ks[i]? = some kb) (hd : ds[i]? = some db) (hs : ss[i]? = some s) (K p a b c d : Int) (wt : Bool) (hr : (Cl.opn p a).rng) :
    Calls Tryz.prog 66 #[.pointer (some ⟨wb, 0, none⟩), .agg #[.int .i64 3, .int .i64 K, .int .i64 p, .int .i64 a, .int .i64 b, .int .i64 c, .int .i64 d, .bool wt], kptr kb, dkPtr db] w fun r w' => r = .returned (.bool true) ∧ ∃ own', PI w' wb own' (N + 2) (M + 7) xv yv ks ds (ss.set i (s.step (Cl.opn p a)).1) (ss.set i (s.step (Cl.opn p a)).1) ∧ UB w.heap.size (owned own) (owned own') w w' := by
  have hi := h.inv hk hs
  have HLT : Hid (¬ owned own w.heap.size) := fun ho => by obtain ⟨j, hj⟩ := ho; exact absurd (h.o.lt j _ hj) (Nat.lt_irrefl _)
  have hbx := (Below.refl w.heap.size w).alloc (Nat.le_refl _) (.cells #[.int .i64 3, .int .i64 K, .int .i64 p, .int .i64 a, .int .i64 b, .int .i64 c, .int .i64 d, .bool wt] 77)
  have HD := Hid.mk (h.dnum hi hN hd hs hbx (Cl.opn p a) rfl)
  have HKF := Hid.mk (fun w1 own1 (h1 : PI w1 wb own1 N (M + 7) xv yv ks ds ss (ss.set i (s.step (Cl.opn p a)).1)) => h1.kcall hk hs (Cl.opn p a) hr)
  have hst := DS.step_num s (Cl.opn p a) rfl
  have HNX := Hid.mk (heap_alloc_new w (.cells #[.int .i64 3, .int .i64 K, .int .i64 p, .int .i64 a, .int .i64 b, .int .i64 c, .int .i64 d, .bool wt] 77))
  clear h hi hbx hk hd hs hr
  unfold Cl.dfn Cl.dargs dkPtr at HD
  unfold Cl.fn Cl.args kptr rpV at HKF
  unfold kptr dkPtr
  generalize s.step (Cl.opn p a) = SS at *
  obtain ⟨s', ⟨re, rn, rd⟩⟩ := SS
  simp only at HD HKF hst ⊢
  subst hst
  go_enter Tryz.func66, Tryz.ntmps66
  go_wp2_with (first
    | (go_at_call 100; refine HD.out.mono ?_; rintro r w1 ⟨rfl, own1, hp1, hub1, hu1⟩; have hz1 := hu1.size; simp at hz1; have hx1b := (hu1.block w.heap.size (by simp) HLT.out).trans HNX.out; have w1c0 : w1.cell? ⟨w.heap.size, 0, none⟩ = some (.int .i64 3) := (by simp only [World.cell?, hx1b]; rfl); have w1c2 : w1.cell? ⟨w.heap.size, 2, none⟩ = some (.int .i64 p) := (by simp only [World.cell?, hx1b]; rfl); have w1c3 : w1.cell? ⟨w.heap.size, 3, none⟩ = some (.int .i64 a) := (by simp only [World.cell?, hx1b]; rfl); have HLT1 : Hid (¬ owned own1 w.heap.size) := (fun ho => HLT.out (hu1.old _ (by simp) ho)); have HX1 := Hid.mk hx1b; have HP1 := Hid.mk hp1; have HUB1 := Hid.mk hub1; clear hp1 hub1 hu1 hx1b)
    | (go_at_call 23; refine (HKF.out w1 own1 HP1.out).mono ?_; rintro r w2 ⟨v2, own2, rfl, hp2, hu2, ho2, hf2⟩; obtain ⟨va, vc, rfl⟩ := own_form ho2; have hz2 := hu2.size; have HP2 := Hid.mk hp2; have HU2 := Hid.mk (UB.of_upd (B := w.heap.size) hu2 (by omega)); clear hp2 hu2 ho2 hf2)
    | (go_at_call 99; refine (number_any _ _ _ _ _).mono ?_; rintro r w3 ⟨rfl, hb3⟩; have HB3 := Hid.mk hb3; clear hb3))
  go_ret
  exact ⟨rfl, own2, (HP2.out.below HB3.out).more (by omega), (HUB1.out.trans HU2.out).trans (UB.of_below HB3.out (by omega))⟩
set_option maxHeartbeats 8000000 in
set_option maxRecDepth 100000 in
theorem called_dup (h : PI w wb own N M xv yv ks ds ss ss) (_hB : N + 9 ≤ 1000000000) (hN : M + 8 ≤ 10000000) (hk : ks[i]? = some kb) (hd : ds[i]? = some db) (hs : ss[i]? = some s) (K p a b c d : Int) (wt : Bool) (hr : (Cl.dup p a).rng) :
    Calls Tryz.prog 66 #[.pointer (some ⟨wb, 0, none⟩), .agg #[.int .i64 4, .int .i64 K, .int .i64 p, .int .i64 a, .int .i64 b, .int .i64 c, .int .i64 d, .bool wt], kptr kb, dkPtr db] w fun r w' => r = .returned (.bool true) ∧ ∃ own', PI w' wb own' (N + 2) (M + 7) xv yv ks ds (ss.set i (s.step (Cl.dup p a)).1) (ss.set i (s.step (Cl.dup p a)).1) ∧ UB w.heap.size (owned own) (owned own') w w' := by
  have hi := h.inv hk hs
  have HLT : Hid (¬ owned own w.heap.size) := fun ho => by obtain ⟨j, hj⟩ := ho; exact absurd (h.o.lt j _ hj) (Nat.lt_irrefl _)
  have hbx := (Below.refl w.heap.size w).alloc (Nat.le_refl _) (.cells #[.int .i64 4, .int .i64 K, .int .i64 p, .int .i64 a, .int .i64 b, .int .i64 c, .int .i64 d, .bool wt] 77)
  have HD := Hid.mk (h.dnum hi hN hd hs hbx (Cl.dup p a) rfl)
  have HKF := Hid.mk (fun w1 own1 (h1 : PI w1 wb own1 N (M + 7) xv yv ks ds ss (ss.set i (s.step (Cl.dup p a)).1)) => h1.kcall hk hs (Cl.dup p a) hr)
  have hst := DS.step_num s (Cl.dup p a) rfl
  have HNX := Hid.mk (heap_alloc_new w (.cells #[.int .i64 4, .int .i64 K, .int .i64 p, .int .i64 a, .int .i64 b, .int .i64 c, .int .i64 d, .bool wt] 77))
  clear h hi hbx hk hd hs hr
  unfold Cl.dfn Cl.dargs dkPtr at HD
  unfold Cl.fn Cl.args kptr rpV at HKF
  unfold kptr dkPtr
  generalize s.step (Cl.dup p a) = SS at *
  obtain ⟨s', ⟨re, rn, rd⟩⟩ := SS
  simp only at HD HKF hst ⊢
  subst hst
  go_enter Tryz.func66, Tryz.ntmps66
  go_wp2_with (first
    | (go_at_call 101; refine HD.out.mono ?_; rintro r w1 ⟨rfl, own1, hp1, hub1, hu1⟩; have hz1 := hu1.size; simp at hz1; have hx1b := (hu1.block w.heap.size (by simp) HLT.out).trans HNX.out; have w1c0 : w1.cell? ⟨w.heap.size, 0, none⟩ = some (.int .i64 4) := (by simp only [World.cell?, hx1b]; rfl); have w1c2 : w1.cell? ⟨w.heap.size, 2, none⟩ = some (.int .i64 p) := (by simp only [World.cell?, hx1b]; rfl); have w1c3 : w1.cell? ⟨w.heap.size, 3, none⟩ = some (.int .i64 a) := (by simp only [World.cell?, hx1b]; rfl); have HLT1 : Hid (¬ owned own1 w.heap.size) := (fun ho => HLT.out (hu1.old _ (by simp) ho)); have HX1 := Hid.mk hx1b; have HP1 := Hid.mk hp1; have HUB1 := Hid.mk hub1; clear hp1 hub1 hu1 hx1b)
    | (go_at_call 24; refine (HKF.out w1 own1 HP1.out).mono ?_; rintro r w2 ⟨v2, own2, rfl, hp2, hu2, ho2, hf2⟩; obtain ⟨va, vc, rfl⟩ := own_form ho2; have hz2 := hu2.size; have HP2 := Hid.mk hp2; have HU2 := Hid.mk (UB.of_upd (B := w.heap.size) hu2 (by omega)); clear hp2 hu2 ho2 hf2)
    | (go_at_call 99; refine (number_any _ _ _ _ _).mono ?_; rintro r w3 ⟨rfl, hb3⟩; have HB3 := Hid.mk hb3; clear hb3))
  go_ret
  exact ⟨rfl, own2, (HP2.out.below HB3.out).more (by omega), (HUB1.out.trans HU2.out).trans (UB.of_below HB3.out (by omega))⟩
set_option maxHeartbeats 8000000 in
set_option maxRecDepth 100000 in
theorem called_test (h : PI w wb own N M xv yv ks ds ss ss) (_hB : N + 9 ≤ 1000000000) (hN : M + 8 ≤ 10000000) (hk : ks[i]? = some kb) (hd : ds[i]? = some db) (hs : ss[i]? = some s) (K p a b c d : Int) (wt : Bool) (hr : (Cl.test p a b c d).rng) :
    Calls Tryz.prog 66 #[.pointer (some ⟨wb, 0, none⟩), .agg #[.int .i64 7, .int .i64 K, .int .i64 p, .int .i64 a, .int .i64 b, .int .i64 c, .int .i64 d, .bool wt], kptr kb, dkPtr db] w fun r w' => r = .returned (.bool true) ∧ ∃ own', PI w' wb own' (N + 2) (M + 7) xv yv ks ds (ss.set i (s.step (Cl.test p a b c d)).1) (ss.set i (s.step (Cl.test p a b c d)).1) ∧ UB w.heap.size (owned own) (owned own') w w' := by
  have hi := h.inv hk hs
  have HLT : Hid (¬ owned own w.heap.size) := fun ho => by obtain ⟨j, hj⟩ := ho; exact absurd (h.o.lt j _ hj) (Nat.lt_irrefl _)
  have hbx := (Below.refl w.heap.size w).alloc (Nat.le_refl _) (.cells #[.int .i64 7, .int .i64 K, .int .i64 p, .int .i64 a, .int .i64 b, .int .i64 c, .int .i64 d, .bool wt] 77)
  have HD := Hid.mk (h.dnum hi hN hd hs hbx (Cl.test p a b c d) rfl)
  have HKF := Hid.mk (fun w1 own1 (h1 : PI w1 wb own1 N (M + 7) xv yv ks ds ss (ss.set i (s.step (Cl.test p a b c d)).1)) => h1.kcall hk hs (Cl.test p a b c d) hr)
  have hst := DS.step_num s (Cl.test p a b c d) rfl
  have HNX := Hid.mk (heap_alloc_new w (.cells #[.int .i64 7, .int .i64 K, .int .i64 p, .int .i64 a, .int .i64 b, .int .i64 c, .int .i64 d, .bool wt] 77))
  clear h hi hbx hk hd hs hr
  unfold Cl.dfn Cl.dargs dkPtr at HD
  unfold Cl.fn Cl.args kptr rpV at HKF
  unfold kptr dkPtr
  generalize s.step (Cl.test p a b c d) = SS at *
  obtain ⟨s', ⟨re, rn, rd⟩⟩ := SS
  simp only at HD HKF hst ⊢
  subst hst
  go_enter Tryz.func66, Tryz.ntmps66
  go_wp2_with (first
    | (go_at_call 102; refine HD.out.mono ?_; rintro r w1 ⟨rfl, own1, hp1, hub1, hu1⟩; have hz1 := hu1.size; simp at hz1; have hx1b := (hu1.block w.heap.size (by simp) HLT.out).trans HNX.out; have w1c0 : w1.cell? ⟨w.heap.size, 0, none⟩ = some (.int .i64 7) := (by simp only [World.cell?, hx1b]; rfl); have w1c2 : w1.cell? ⟨w.heap.size, 2, none⟩ = some (.int .i64 p) := (by simp only [World.cell?, hx1b]; rfl); have w1c3 : w1.cell? ⟨w.heap.size, 3, none⟩ = some (.int .i64 a) := (by simp only [World.cell?, hx1b]; rfl); have w1c4 : w1.cell? ⟨w.heap.size, 4, none⟩ = some (.int .i64 b) := (by simp only [World.cell?, hx1b]; rfl); have w1c5 : w1.cell? ⟨w.heap.size, 5, none⟩ = some (.int .i64 c) := (by simp only [World.cell?, hx1b]; rfl); have w1c6 : w1.cell? ⟨w.heap.size, 6, none⟩ = some (.int .i64 d) := (by simp only [World.cell?, hx1b]; rfl); have HLT1 : Hid (¬ owned own1 w.heap.size) := (fun ho => HLT.out (hu1.old _ (by simp) ho)); have HX1 := Hid.mk hx1b; have HP1 := Hid.mk hp1; have HUB1 := Hid.mk hub1; clear hp1 hub1 hu1 hx1b)
    | (go_at_call 22; refine (HKF.out w1 own1 HP1.out).mono ?_; rintro r w2 ⟨v2, own2, rfl, hp2, hu2, ho2, hf2⟩; obtain ⟨va, vc, rfl⟩ := own_form ho2; have hz2 := hu2.size; have HP2 := Hid.mk hp2; have HU2 := Hid.mk (UB.of_upd (B := w.heap.size) hu2 (by omega)); clear hp2 hu2 ho2 hf2)
    | (go_at_call 99; refine (number_any _ _ _ _ _).mono ?_; rintro r w3 ⟨rfl, hb3⟩; have HB3 := Hid.mk hb3; clear hb3))
  go_ret
  exact ⟨rfl, own2, (HP2.out.below HB3.out).more (by omega), (HUB1.out.trans HU2.out).trans (UB.of_below HB3.out (by omega))⟩
set_option maxHeartbeats 8000000 in
set_option maxRecDepth 100000 in
theorem called_kill (h : PI w wb own N M xv yv ks ds ss ss) (hB : N + 9 ≤ 1000000000) (hN : M + 8 ≤ 10000000) (hk : ks[i]? = some kb) (hd : ds[i]? = some db) (hs : ss[i]? = some s) (K p a b c d : Int) (wt : Bool) (hr : (Cl.kill p).rng) :
    Calls Tryz.prog 66 #[.pointer (some ⟨wb, 0, none⟩), .agg #[.int .i64 2, .int .i64 K, .int .i64 p, .int .i64 a, .int .i64 b, .int .i64 c, .int .i64 d, .bool wt], kptr kb, dkPtr db] w fun r w' => r = .returned (.bool true) ∧ ∃ own', PI w' wb own' (N + 2) (M + 7) xv yv ks ds (ss.set i (s.step (Cl.kill p)).1) (ss.set i (s.step (Cl.kill p)).1) ∧ UB w.heap.size (owned own) (owned own') w w' := by
  have hi := h.inv hk hs
  have HLT : Hid (¬ owned own w.heap.size) := fun ho => by obtain ⟨j, hj⟩ := ho; exact absurd (h.o.lt j _ hj) (Nat.lt_irrefl _)
  have hbx := (Below.refl w.heap.size w).alloc (Nat.le_refl _) (.cells #[.int .i64 2, .int .i64 K, .int .i64 p, .int .i64 a, .int .i64 b, .int .i64 c, .int .i64 d, .bool wt] 77)
  have HD := Hid.mk (h.ddone hi hN hd hs hbx (Cl.kill p) rfl)
  have HKF := Hid.mk (fun w1 own1 (h1 : PI w1 wb own1 N (M + 7) xv yv ks ds ss (ss.set i (s.step (Cl.kill p)).1)) => h1.kcall hk hs (Cl.kill p) hr)
  have hst := DS.step_done s (Cl.kill p) rfl
  have HNX := Hid.mk (heap_alloc_new w (.cells #[.int .i64 2, .int .i64 K, .int .i64 p, .int .i64 a, .int .i64 b, .int .i64 c, .int .i64 d, .bool wt] 77))
  have HLEN := Hid.mk (DS.step_len hi.toBas (Cl.kill p))
  clear h hi hbx hk hd hs hr
  unfold Cl.dfn Cl.dargs dkPtr at HD
  unfold Cl.fn Cl.args kptr rpV at HKF
  unfold kptr dkPtr
  generalize s.step (Cl.kill p) = SS at *
  obtain ⟨s', ⟨re, rn, rd⟩⟩ := SS
  simp only at HD HKF hst HLEN ⊢
  subst hst
  go_enter Tryz.func66, Tryz.ntmps66
  go_wp2_with (first
    | (go_at_call 103; refine HD.out.mono ?_; rintro r w1 ⟨x1, own1, rfl, hp1, hub1, hu1, hx1, hxf1⟩; have hz1 := hu1.size; simp at hz1; have hx1b := (hu1.block w.heap.size (by simp) HLT.out).trans HNX.out; have w1c0 : w1.cell? ⟨w.heap.size, 0, none⟩ = some (.int .i64 2) := (by simp only [World.cell?, hx1b]; rfl); have w1c2 : w1.cell? ⟨w.heap.size, 2, none⟩ = some (.int .i64 p) := (by simp only [World.cell?, hx1b]; rfl); have HLT1 : Hid (¬ owned own1 w.heap.size) := (fun ho => HLT.out (hu1.old _ (by simp) ho)); have HX1 := Hid.mk hx1b; have HP1 := Hid.mk hp1; have HUB1 := Hid.mk hub1; obtain ⟨xa, xc, rfl⟩ := own_form hx1; have HXO := Hid.mk hx1; have HXF := Hid.mk hxf1; clear hx1 hxf1; clear hp1 hub1 hu1 hx1b)
    | (go_at_call 28; refine (HKF.out w1 own1 HP1.out).mono ?_; rintro r w2 ⟨v2, own2, rfl, hp2, hu2, ho2, hf2⟩; obtain ⟨va, vc, rfl⟩ := own_form ho2; have hz2 := hu2.size; have HXO2 := Hid.mk (own_blk HXO.out fun b e => hu2.block b (HXO.out.lt b e).2 (HXF.out b e)); have HVF : Hid (∀ b, Value.ownBlock (.slice va rd.length vc) = some b → w.heap.size ≤ b ∧ b < w2.heap.size ∧ ¬ owned own2 b) := (fun b e => ⟨by have := (ho2.lt b e).1; omega, (ho2.lt b e).2, hf2 b e⟩); have HO2 := Hid.mk ho2; have HP2 := Hid.mk hp2; have HU2 := Hid.mk (UB.of_upd (B := w.heap.size) hu2 (by omega)); clear hp2 hu2 ho2 hf2)
    | (go_at_call 104; obtain ⟨iv, dv, rv, fv, n, ei, ed, er, ef, hw⟩ := HP2.out.b; refine (wDone hw (by omega) HO2.out HXO2.out HLEN.out (fun b e ho => (HVF.out b e).2.2 ⟨0, ho⟩) (HP2.out.o.lt 0)).mono ?_; rintro r w3 ⟨rfl, W, hbW, hbk⟩; have HTK := Hid.mk (HP2.out.take (B := w.heap.size) (by omega) HVF.out hbW (by omega) hbk); clear hbW hbk hw))
  go_ret
  obtain ⟨own3, hp3, hu3⟩ := HTK.out
  exact ⟨rfl, own3, hp3, (HUB1.out.trans HU2.out).trans hu3⟩
set_option maxHeartbeats 8000000 in
set_option maxRecDepth 100000 in
theorem called_close (h : PI w wb own N M xv yv ks ds ss ss) (hB : N + 9 ≤ 1000000000) (hN : M + 8 ≤ 10000000) (hk : ks[i]? = some kb) (hd : ds[i]? = some db) (hs : ss[i]? = some s) (K p a b c d : Int) (wt : Bool) (hr : (Cl.close p a).rng) :
    Calls Tryz.prog 66 #[.pointer (some ⟨wb, 0, none⟩), .agg #[.int .i64 5, .int .i64 K, .int .i64 p, .int .i64 a, .int .i64 b, .int .i64 c, .int .i64 d, .bool wt], kptr kb, dkPtr db] w fun r w' => r = .returned (.bool true) ∧ ∃ own', PI w' wb own' (N + 2) (M + 7) xv yv ks ds (ss.set i (s.step (Cl.close p a)).1) (ss.set i (s.step (Cl.close p a)).1) ∧ UB w.heap.size (owned own) (owned own') w w' := by
  have hi := h.inv hk hs
  have HLT : Hid (¬ owned own w.heap.size) := fun ho => by obtain ⟨j, hj⟩ := ho; exact absurd (h.o.lt j _ hj) (Nat.lt_irrefl _)
  have hbx := (Below.refl w.heap.size w).alloc (Nat.le_refl _) (.cells #[.int .i64 5, .int .i64 K, .int .i64 p, .int .i64 a, .int .i64 b, .int .i64 c, .int .i64 d, .bool wt] 77)
  have HD := Hid.mk (h.ddone hi hN hd hs hbx (Cl.close p a) rfl)
  have HKF := Hid.mk (fun w1 own1 (h1 : PI w1 wb own1 N (M + 7) xv yv ks ds ss (ss.set i (s.step (Cl.close p a)).1)) => h1.kcall hk hs (Cl.close p a) hr)
  have hst := DS.step_done s (Cl.close p a) rfl
  have HNX := Hid.mk (heap_alloc_new w (.cells #[.int .i64 5, .int .i64 K, .int .i64 p, .int .i64 a, .int .i64 b, .int .i64 c, .int .i64 d, .bool wt] 77))
  have HLEN := Hid.mk (DS.step_len hi.toBas (Cl.close p a))
  clear h hi hbx hk hd hs hr
  unfold Cl.dfn Cl.dargs dkPtr at HD
  unfold Cl.fn Cl.args kptr rpV at HKF
  unfold kptr dkPtr
  generalize s.step (Cl.close p a) = SS at *
  obtain ⟨s', ⟨re, rn, rd⟩⟩ := SS
  simp only at HD HKF hst HLEN ⊢
  subst hst
  go_enter Tryz.func66, Tryz.ntmps66
  go_wp2_with (first
    | (go_at_call 105; refine HD.out.mono ?_; rintro r w1 ⟨x1, own1, rfl, hp1, hub1, hu1, hx1, hxf1⟩; have hz1 := hu1.size; simp at hz1; have hx1b := (hu1.block w.heap.size (by simp) HLT.out).trans HNX.out; have w1c0 : w1.cell? ⟨w.heap.size, 0, none⟩ = some (.int .i64 5) := (by simp only [World.cell?, hx1b]; rfl); have w1c2 : w1.cell? ⟨w.heap.size, 2, none⟩ = some (.int .i64 p) := (by simp only [World.cell?, hx1b]; rfl); have w1c3 : w1.cell? ⟨w.heap.size, 3, none⟩ = some (.int .i64 a) := (by simp only [World.cell?, hx1b]; rfl); have HLT1 : Hid (¬ owned own1 w.heap.size) := (fun ho => HLT.out (hu1.old _ (by simp) ho)); have HX1 := Hid.mk hx1b; have HP1 := Hid.mk hp1; have HUB1 := Hid.mk hub1; obtain ⟨xa, xc, rfl⟩ := own_form hx1; have HXO := Hid.mk hx1; have HXF := Hid.mk hxf1; clear hx1 hxf1; clear hp1 hub1 hu1 hx1b)
    | (go_at_call 26; refine (HKF.out w1 own1 HP1.out).mono ?_; rintro r w2 ⟨v2, own2, rfl, hp2, hu2, ho2, hf2⟩; obtain ⟨va, vc, rfl⟩ := own_form ho2; have hz2 := hu2.size; have HXO2 := Hid.mk (own_blk HXO.out fun b e => hu2.block b (HXO.out.lt b e).2 (HXF.out b e)); have HVF : Hid (∀ b, Value.ownBlock (.slice va rd.length vc) = some b → w.heap.size ≤ b ∧ b < w2.heap.size ∧ ¬ owned own2 b) := (fun b e => ⟨by have := (ho2.lt b e).1; omega, (ho2.lt b e).2, hf2 b e⟩); have HO2 := Hid.mk ho2; have HP2 := Hid.mk hp2; have HU2 := Hid.mk (UB.of_upd (B := w.heap.size) hu2 (by omega)); clear hp2 hu2 ho2 hf2)
    | (go_at_call 104; obtain ⟨iv, dv, rv, fv, n, ei, ed, er, ef, hw⟩ := HP2.out.b; refine (wDone hw (by omega) HO2.out HXO2.out HLEN.out (fun b e ho => (HVF.out b e).2.2 ⟨0, ho⟩) (HP2.out.o.lt 0)).mono ?_; rintro r w3 ⟨rfl, W, hbW, hbk⟩; have HTK := Hid.mk (HP2.out.take (B := w.heap.size) (by omega) HVF.out hbW (by omega) hbk); clear hbW hbk hw))
  go_ret
  obtain ⟨own3, hp3, hu3⟩ := HTK.out
  exact ⟨rfl, own3, hp3, (HUB1.out.trans HU2.out).trans hu3⟩
set_option maxHeartbeats 8000000 in
set_option maxRecDepth 100000 in
theorem called_whole (h : PI w wb own N M xv yv ks ds ss ss) (hB : N + 9 ≤ 1000000000) (hN : M + 8 ≤ 10000000) (hk : ks[i]? = some kb) (hd : ds[i]? = some db) (hs : ss[i]? = some s) (K p a b c d : Int) (wt : Bool) (hr : (Cl.whole p a b wt).rng) :
    Calls Tryz.prog 66 #[.pointer (some ⟨wb, 0, none⟩), .agg #[.int .i64 9, .int .i64 K, .int .i64 p, .int .i64 a, .int .i64 b, .int .i64 c, .int .i64 d, .bool wt], kptr kb, dkPtr db] w fun r w' => r = .returned (.bool true) ∧ ∃ own', PI w' wb own' (N + 2) (M + 7) xv yv ks ds (ss.set i (s.step (Cl.whole p a b wt)).1) (ss.set i (s.step (Cl.whole p a b wt)).1) ∧ UB w.heap.size (owned own) (owned own') w w' := by
  have hi := h.inv hk hs
  have HLT : Hid (¬ owned own w.heap.size) := fun ho => by obtain ⟨j, hj⟩ := ho; exact absurd (h.o.lt j _ hj) (Nat.lt_irrefl _)
  have hbx := (Below.refl w.heap.size w).alloc (Nat.le_refl _) (.cells #[.int .i64 9, .int .i64 K, .int .i64 p, .int .i64 a, .int .i64 b, .int .i64 c, .int .i64 d, .bool wt] 77)
  have HD := Hid.mk (h.ddone hi hN hd hs hbx (Cl.whole p a b wt) rfl)
  have HKF := Hid.mk (fun w1 own1 (h1 : PI w1 wb own1 N (M + 7) xv yv ks ds ss (ss.set i (s.step (Cl.whole p a b wt)).1)) => h1.kcall hk hs (Cl.whole p a b wt) hr)
  have hst := DS.step_done s (Cl.whole p a b wt) rfl
  have HNX := Hid.mk (heap_alloc_new w (.cells #[.int .i64 9, .int .i64 K, .int .i64 p, .int .i64 a, .int .i64 b, .int .i64 c, .int .i64 d, .bool wt] 77))
  have HLEN := Hid.mk (DS.step_len hi.toBas (Cl.whole p a b wt))
  clear h hi hbx hk hd hs hr
  unfold Cl.dfn Cl.dargs dkPtr at HD
  unfold Cl.fn Cl.args kptr rpV at HKF
  unfold kptr dkPtr
  generalize s.step (Cl.whole p a b wt) = SS at *
  obtain ⟨s', ⟨re, rn, rd⟩⟩ := SS
  simp only at HD HKF hst HLEN ⊢
  subst hst
  go_enter Tryz.func66, Tryz.ntmps66
  go_wp2_with (first
    | (go_at_call 106; refine HD.out.mono ?_; rintro r w1 ⟨x1, own1, rfl, hp1, hub1, hu1, hx1, hxf1⟩; have hz1 := hu1.size; simp at hz1; have hx1b := (hu1.block w.heap.size (by simp) HLT.out).trans HNX.out; have w1c0 : w1.cell? ⟨w.heap.size, 0, none⟩ = some (.int .i64 9) := (by simp only [World.cell?, hx1b]; rfl); have w1c2 : w1.cell? ⟨w.heap.size, 2, none⟩ = some (.int .i64 p) := (by simp only [World.cell?, hx1b]; rfl); have w1c3 : w1.cell? ⟨w.heap.size, 3, none⟩ = some (.int .i64 a) := (by simp only [World.cell?, hx1b]; rfl); have w1c4 : w1.cell? ⟨w.heap.size, 4, none⟩ = some (.int .i64 b) := (by simp only [World.cell?, hx1b]; rfl); have w1c7 : w1.cell? ⟨w.heap.size, 7, none⟩ = some (.bool wt) := (by simp only [World.cell?, hx1b]; rfl); have HLT1 : Hid (¬ owned own1 w.heap.size) := (fun ho => HLT.out (hu1.old _ (by simp) ho)); have HX1 := Hid.mk hx1b; have HP1 := Hid.mk hp1; have HUB1 := Hid.mk hub1; obtain ⟨xa, xc, rfl⟩ := own_form hx1; have HXO := Hid.mk hx1; have HXF := Hid.mk hxf1; clear hx1 hxf1; clear hp1 hub1 hu1 hx1b)
    | (go_at_call 25; refine (HKF.out w1 own1 HP1.out).mono ?_; rintro r w2 ⟨v2, own2, rfl, hp2, hu2, ho2, hf2⟩; obtain ⟨va, vc, rfl⟩ := own_form ho2; have hz2 := hu2.size; have HXO2 := Hid.mk (own_blk HXO.out fun b e => hu2.block b (HXO.out.lt b e).2 (HXF.out b e)); have HVF : Hid (∀ b, Value.ownBlock (.slice va rd.length vc) = some b → w.heap.size ≤ b ∧ b < w2.heap.size ∧ ¬ owned own2 b) := (fun b e => ⟨by have := (ho2.lt b e).1; omega, (ho2.lt b e).2, hf2 b e⟩); have HO2 := Hid.mk ho2; have HP2 := Hid.mk hp2; have HU2 := Hid.mk (UB.of_upd (B := w.heap.size) hu2 (by omega)); clear hp2 hu2 ho2 hf2)
    | (go_at_call 104; obtain ⟨iv, dv, rv, fv, n, ei, ed, er, ef, hw⟩ := HP2.out.b; refine (wDone hw (by omega) HO2.out HXO2.out HLEN.out (fun b e ho => (HVF.out b e).2.2 ⟨0, ho⟩) (HP2.out.o.lt 0)).mono ?_; rintro r w3 ⟨rfl, W, hbW, hbk⟩; have HTK := Hid.mk (HP2.out.take (B := w.heap.size) (by omega) HVF.out hbW (by omega) hbk); clear hbW hbk hw))
  go_ret
  obtain ⟨own3, hp3, hu3⟩ := HTK.out
  exact ⟨rfl, own3, hp3, (HUB1.out.trans HU2.out).trans hu3⟩
set_option maxHeartbeats 8000000 in
set_option maxRecDepth 100000 in
theorem called_lock (h : PI w wb own N M xv yv ks ds ss ss) (hB : N + 9 ≤ 1000000000) (hN : M + 8 ≤ 10000000) (hk : ks[i]? = some kb) (hd : ds[i]? = some db) (hs : ss[i]? = some s) {kind : Int} (K p a b c d : Int) (wt : Bool) (hr : (Cl.lock p a b c d (kind == 12)).rng) (hkind : kind ≠ 1 ∧ kind ≠ 3 ∧ kind ≠ 4 ∧ kind ≠ 7 ∧ kind ≠ 2 ∧ kind ≠ 5 ∧ kind ≠ 9) :
    Calls Tryz.prog 66 #[.pointer (some ⟨wb, 0, none⟩), .agg #[.int .i64 kind, .int .i64 K, .int .i64 p, .int .i64 a, .int .i64 b, .int .i64 c, .int .i64 d, .bool wt], kptr kb, dkPtr db] w fun r w' => r = .returned (.bool true) ∧ ∃ own', PI w' wb own' (N + 2) (M + 7) xv yv ks ds (ss.set i (s.step (Cl.lock p a b c d (kind == 12))).1) (ss.set i (s.step (Cl.lock p a b c d (kind == 12))).1) ∧ UB w.heap.size (owned own) (owned own') w w' := by
  have hi := h.inv hk hs
  have HLT : Hid (¬ owned own w.heap.size) := fun ho => by obtain ⟨j, hj⟩ := ho; exact absurd (h.o.lt j _ hj) (Nat.lt_irrefl _)
  have hbx := (Below.refl w.heap.size w).alloc (Nat.le_refl _) (.cells #[.int .i64 kind, .int .i64 K, .int .i64 p, .int .i64 a, .int .i64 b, .int .i64 c, .int .i64 d, .bool wt] 77)
  have HD := Hid.mk (h.ddone hi hN hd hs hbx (Cl.lock p a b c d (kind == 12)) rfl)
  have HKF := Hid.mk (fun w1 own1 (h1 : PI w1 wb own1 N (M + 7) xv yv ks ds ss (ss.set i (s.step (Cl.lock p a b c d (kind == 12))).1)) => h1.kcall hk hs (Cl.lock p a b c d (kind == 12)) hr)
  have hst := DS.step_done s (Cl.lock p a b c d (kind == 12)) rfl
  have HNX := Hid.mk (heap_alloc_new w (.cells #[.int .i64 kind, .int .i64 K, .int .i64 p, .int .i64 a, .int .i64 b, .int .i64 c, .int .i64 d, .bool wt] 77))
  have HLEN := Hid.mk (DS.step_len hi.toBas (Cl.lock p a b c d (kind == 12)))
  clear h hi hbx hk hd hs hr
  unfold Cl.dfn Cl.dargs dkPtr at HD
  unfold Cl.fn Cl.args kptr rpV at HKF
  unfold kptr dkPtr
  generalize s.step (Cl.lock p a b c d (kind == 12)) = SS at *
  obtain ⟨s', ⟨re, rn, rd⟩⟩ := SS
  simp only at HD HKF hst HLEN ⊢
  subst hst
  obtain ⟨k1, k3, k4, k7, k2, k5, k9⟩ := hkind
  have e1 : (kind == 1) = false := by simpa using k1
  have e3 : (kind == 3) = false := by simpa using k3
  have e4 : (kind == 4) = false := by simpa using k4
  have e7 : (kind == 7) = false := by simpa using k7
  have e2 : (kind == 2) = false := by simpa using k2
  have e5 : (kind == 5) = false := by simpa using k5
  have e9 : (kind == 9) = false := by simpa using k9
  clear k1 k3 k4 k7 k2 k5 k9
  go_enter Tryz.func66, Tryz.ntmps66
  go_wp2_with (first
    | (go_at_call 107; refine HD.out.mono ?_; rintro r w1 ⟨x1, own1, rfl, hp1, hub1, hu1, hx1, hxf1⟩; have hz1 := hu1.size; simp at hz1; have hx1b := (hu1.block w.heap.size (by simp) HLT.out).trans HNX.out; have w1c0 : w1.cell? ⟨w.heap.size, 0, none⟩ = some (.int .i64 kind) := (by simp only [World.cell?, hx1b]; rfl); have w1c2 : w1.cell? ⟨w.heap.size, 2, none⟩ = some (.int .i64 p) := (by simp only [World.cell?, hx1b]; rfl); have w1c3 : w1.cell? ⟨w.heap.size, 3, none⟩ = some (.int .i64 a) := (by simp only [World.cell?, hx1b]; rfl); have w1c4 : w1.cell? ⟨w.heap.size, 4, none⟩ = some (.int .i64 b) := (by simp only [World.cell?, hx1b]; rfl); have w1c5 : w1.cell? ⟨w.heap.size, 5, none⟩ = some (.int .i64 c) := (by simp only [World.cell?, hx1b]; rfl); have w1c6 : w1.cell? ⟨w.heap.size, 6, none⟩ = some (.int .i64 d) := (by simp only [World.cell?, hx1b]; rfl); have HLT1 : Hid (¬ owned own1 w.heap.size) := (fun ho => HLT.out (hu1.old _ (by simp) ho)); have HX1 := Hid.mk hx1b; have HP1 := Hid.mk hp1; have HUB1 := Hid.mk hub1; obtain ⟨xa, xc, rfl⟩ := own_form hx1; have HXO := Hid.mk hx1; have HXF := Hid.mk hxf1; clear hx1 hxf1; clear hp1 hub1 hu1 hx1b)
    | (go_at_call 18; refine (HKF.out w1 own1 HP1.out).mono ?_; rintro r w2 ⟨v2, own2, rfl, hp2, hu2, ho2, hf2⟩; obtain ⟨va, vc, rfl⟩ := own_form ho2; have hz2 := hu2.size; have HXO2 := Hid.mk (own_blk HXO.out fun b e => hu2.block b (HXO.out.lt b e).2 (HXF.out b e)); have HVF : Hid (∀ b, Value.ownBlock (.slice va rd.length vc) = some b → w.heap.size ≤ b ∧ b < w2.heap.size ∧ ¬ owned own2 b) := (fun b e => ⟨by have := (ho2.lt b e).1; omega, (ho2.lt b e).2, hf2 b e⟩); have HO2 := Hid.mk ho2; have HP2 := Hid.mk hp2; have HU2 := Hid.mk (UB.of_upd (B := w.heap.size) hu2 (by omega)); clear hp2 hu2 ho2 hf2)
    | (go_at_call 104; obtain ⟨iv, dv, rv, fv, n, ei, ed, er, ef, hw⟩ := HP2.out.b; refine (wDone hw (by omega) HO2.out HXO2.out HLEN.out (fun b e ho => (HVF.out b e).2.2 ⟨0, ho⟩) (HP2.out.o.lt 0)).mono ?_; rintro r w3 ⟨rfl, W, hbW, hbk⟩; have HTK := Hid.mk (HP2.out.take (B := w.heap.size) (by omega) HVF.out hbW (by omega) hbk); clear hbW hbk hw))
  go_ret
  obtain ⟨own3, hp3, hu3⟩ := HTK.out
  exact ⟨rfl, own3, hp3, (HUB1.out.trans HU2.out).trans hu3⟩
end
end Go.Proofs.YtaicdjhblbobbaaGreat
