/- What is told of a Kernel and of its Desk: Holds. -/
import Derived.Test.YtaicdjhblbobbaaGreatPLawE
import Derived.Test.YtaicdjhblbobbaaGreatPKeepG
import Derived.Test.YtaicdjhblbobbaaGreatPLawD
import Derived.Deep.RegionHeld3
import Derived.BigQuiet
import Derived.Test.YtaicdjhblbobbaaGreatPLooks
namespace Go.Proofs.YtaicdjhblbobbaaGreat
open Go.RowKit Go.Lib

section
variable {w w' : World} {wb : Nat} {own : Nat → Nat → Prop} {N M : Nat} {xv yv : Value} {ks ds : List Nat} {sk sd : List DS} {i kb db : Nat} {s : DS}
/-- What Holds told: the list, and in it the lists of processes; nobody's. -/
structure HT (w : World) (B : Nat) (own : Nat → Nat → Prop) (v : Value) (L : List Hd) (vs : List Value) : Prop where
  len : vs.length = L.length
  row : w.ownsRow B 55 2 v L.length (flatH L vs)
  each : ∀ (j : Nat) h u, L[j]? = some h → vs[j]? = some u → w.ownsRow B 3 1 u h.ps.length (ints h.ps)
  apart : (v :: vs).Pairwise fun x y => ∀ b, x.ownBlock = some b → y.ownBlock ≠ some b
  far : ∀ u, u ∈ v :: vs → ∀ b, u.ownBlock = some b → ¬ owned own b
theorem PI.kholds (h : PI w wb own N M xv yv ks ds sk sd) (hk : ks[i]? = some kb) (hs : sk[i]? = some s) {W : World} (hb : Below w.heap.size w W) (f : Int) (hf : i64 f) :
    Calls Tryz.prog 27 #[kptr kb, .int .i64 f] W fun r w' => ∃ v vs own', r = .returned v ∧ PI w' wb own' N M xv yv ks ds sk sd ∧ Upd (owned own) (owned own') W w' ∧ HT w' W.heap.size own' v (s.holds f) vs := by
  have hp := h.below hb
  refine (face.holds f hf (hp.k i kb s hk hs)).mono ?_
  rintro r w' ⟨P', v, vs, hr, hl, ht, he, hap, hrep, hu⟩
  refine ⟨v, vs, _, hr, hp.kept hk hs hu hrep, hp.o.all hu, hl, ht.own, fun j h u h1 h2 => (he j h u h1 h2).own, hap, fun u hm b e => ?_⟩
  rcases List.mem_cons.1 hm with rfl | hm
  · exact hp.far ht b e
  · obtain ⟨j, hj⟩ := List.mem_iff_getElem?.1 hm
    have hjl : j < (s.holds f).length := by rw [← hl]; exact (List.getElem?_eq_some_iff.1 hj).1
    exact hp.far (he j _ u (List.getElem?_eq_getElem hjl) hj) b e
theorem PI.dholds (h : PI w wb own N M xv yv ks ds sk sd) (hi : s.Inv) (hN : M + 8 ≤ 10000000) (hd : ds[i]? = some db) (hs : sd[i]? = some s) (f : Int) :
    Calls Tryz.prog 93 #[dkPtr db, .int .i64 f] w fun r w' => ∃ v us, r = .returned v ∧ HoldsB w.heap.size w' v (s.holds f) us ∧ Below w.heap.size w w' := Go.Proofs.YtaicdjhblbobbaaGreat.dholds (h.d i db s hd hs) hi hN f
theorem hd_at {w : World} {base : Nat} {a : Option Addr} {c n : Nat} {l : List Hd} {vs : List Value} {x : Hd} {u : Value} (h : w.ownsRow base 55 2 (.slice a l.length c) l.length (flatH l vs)) (hx : l[n]? = some x) (hu : vs[n]? = some u) :
    ∃ g, a = some ⟨g, 0, none⟩ ∧ base ≤ g ∧ g < w.heap.size ∧ w.cell? ⟨g, n * 2, none⟩ = some (.int .i64 x.k) ∧ w.cell? ⟨g, n * 2 + 1, none⟩ = some u := by
  have hn : n < l.length := (List.getElem?_eq_some_iff.1 hx).1
  obtain ⟨g, rfl, hb, hg, _, hc⟩ := own_some h (by omega)
  obtain ⟨f0, f1⟩ := flatH_get l vs n x u hx hu
  exact ⟨g, rfl, hb, hg, (hc _ (by omega)).trans f0, (hc _ (by omega)).trans f1⟩
theorem HT.below {B : Nat} {v : Value} {L : List Hd} {vs : List Value} (h : HT w B own v L vs) (hb : Below w.heap.size w w') : HT w' B own v L vs :=
  ⟨h.len, own_below h.row hb, fun j x u h1 h2 => own_below (h.each j x u h1 h2) hb, h.apart, h.far⟩
end
section
variable {w : World} {wb : Nat} {own : Nat → Nat → Prop} {N M : Nat} {xv yv : Value} {ks ds : List Nat} {ss : List DS} {i kb db : Nat} {s : DS}
/-- While the lists of processes are taken, n of them so far. -/
structure HL (w0 w : World) (B wb : Nat) (own : Nat → Nat → Prop) (N M : Nat) (xv yv : Value) (ks ds : List Nat) (ss : List DS) (own0 : Nat → Nat → Prop) (v : Value) (L : List Hd) (vs : List Value) (n : Nat) : Prop where
  len : vs.length = L.length
  pi : PI w wb own (N + 2 * n) M xv yv ks ds ss ss
  ub : UB B (owned own0) (owned own) w0 w
  row : w.ownsRow B 55 2 v L.length (flatH L vs)
  each : ∀ (j : Nat) h u, n ≤ j → L[j]? = some h → vs[j]? = some u → w.ownsRow B 3 1 u h.ps.length (ints h.ps)
  far : ∀ b, v.ownBlock = some b → ¬ owned own b
  farj : ∀ (j : Nat) u, n ≤ j → vs[j]? = some u → ∀ b, u.ownBlock = some b → ¬ owned own b
theorem PI.take2 {w w' : World} {sk sd : List DS} (h : PI w wb own N M xv yv ks ds sk sd) {B : Nat} (hB : B ≤ w.heap.size) {v : Value} (hv : ∀ b, v.ownBlock = some b → B ≤ b ∧ b < w.heap.size ∧ ¬ owned own b) {N' : Nat} (hN : N ≤ N') (hbk : BkUpd w w' wb (own 0) v N' ks ds xv yv) : ∃ own', PI w' wb own' N' M xv yv ks ds sk sd ∧ UB B (owned own) (owned own') w w' ∧ ∀ b, b < w.heap.size → ¬ owned own b → v.ownBlock ≠ some b → w'.heap[b]? = w.heap[b]? ∧ ¬ owned own' b := by
  obtain ⟨own', h1, h2⟩ := h.take hB hv (Below.refl _ _) hN hbk
  obtain ⟨P', hw, hlt, hu⟩ := hbk
  have h3 := h.adopt fun b e => (hv b e).2
  have hu2 : Upd (updO own 0 (fun b => own 0 b ∨ v.ownBlock = some b) 0) P' w w' := by rw [updO_self]; exact hu
  have hall := h3.o.all hu2
  have key : ∀ b, ¬ owned own b → v.ownBlock ≠ some b → ¬ owned (updO own 0 (fun b => own 0 b ∨ v.ownBlock = some b)) b := fun b hn hv2 ho => by
    obtain ⟨j, hj⟩ := ho
    unfold updO at hj
    split at hj
    · rcases hj with hj | hj
      · exact hn ⟨0, hj⟩
      · exact hv2 hj
    · exact hn ⟨j, hj⟩
  refine ⟨_, h3.book hN hu2 hlt hw, ?_, fun b hb hn hv2 => ⟨hall.block b hb (key b hn hv2), fun ho => key b hn hv2 (hall.old b hb ho)⟩⟩
  refine ⟨hall.os, hall.tape, hall.output, hall.size, fun k hk hn => hall.block k (by omega) (key k hn fun e => by have := (hv k e).1; omega), fun k hk ho => ?_⟩
  obtain ⟨j, hj⟩ := hall.old k (by omega) ho
  unfold updO at hj
  split at hj
  · rcases hj with hj | hj
    · exact ⟨0, hj⟩
    · have := (hv k hj).1; omega
  · exact ⟨j, hj⟩
theorem HL.step {w0 w w' : World} {B : Nat} {own0 : Nat → Nat → Prop} {v : Value} {L : List Hd} {vs : List Value} {n : Nat} (h : HL w0 w B wb own N M xv yv ks ds ss own0 v L vs n) (hB : B ≤ w.heap.size) (hap : (v :: vs).Pairwise fun x y => ∀ b, x.ownBlock = some b → y.ownBlock ≠ some b) {x : Hd} {u : Value} (hx : L[n]? = some x) (hu : vs[n]? = some u) (hbk : BkUpd w w' wb (own 0) u (N + 2 * n + 2) ks ds xv yv) : ∃ own', HL w0 w' B wb own' N M xv yv ks ds ss own0 v L vs (n + 1) := by
  have hou := h.each n x u (Nat.le_refl _) hx hu
  obtain ⟨own', h1, h2, h3⟩ := h.pi.take2 hB (v := u) (fun b e => ⟨(hou.lt b e).1, (hou.lt b e).2, h.farj n u (Nat.le_refl _) hu b e⟩) (by omega) hbk
  obtain ⟨ha1, ha2⟩ := List.pairwise_cons.1 hap
  have hvu : ∀ b, v.ownBlock = some b → u.ownBlock ≠ some b := ha1 u (List.mem_of_getElem? hu)
  have huj : ∀ (j : Nat) t, n + 1 ≤ j → vs[j]? = some t → ∀ b, t.ownBlock = some b → u.ownBlock ≠ some b := fun j t hj ht b e e2 => by
    obtain ⟨n1, n2⟩ := List.getElem?_eq_some_iff.1 hu
    obtain ⟨j1, j2⟩ := List.getElem?_eq_some_iff.1 ht
    have := (List.pairwise_iff_getElem.1 ha2) n j n1 j1 (by omega)
    rw [n2, j2] at this
    exact this b e2 e
  refine ⟨own', h.len, by rw [show N + 2 * (n + 1) = N + 2 * n + 2 by omega]; exact h1, h.ub.trans h2, own_blk h.row fun b e => (h3 b (h.row.lt b e).2 (h.far b e) (hvu b e)).1, fun j y t hj hy ht => ?_, fun b e => (h3 b (h.row.lt b e).2 (h.far b e) (hvu b e)).2, fun j t hj ht b e => ?_⟩
  · have ho := h.each j y t (by omega) hy ht
    exact own_blk ho fun b e => (h3 b (ho.lt b e).2 (h.farj j t (by omega) ht b e) (huj j t hj ht b e)).1
  · have hlt : b < w.heap.size := by
      have hjl : j < L.length := by rw [← h.len]; exact (List.getElem?_eq_some_iff.1 ht).1
      exact ((h.each j _ t (by omega) (List.getElem?_eq_getElem hjl) ht).lt b e).2
    exact (h3 b hlt (h.farj j t (by omega) ht b e) (huj j t hj ht b e)).2
set_option maxHeartbeats 16000000 in
set_option maxRecDepth 100000 in
theorem told_holds (h : PI w wb own N M xv yv ks ds ss ss) (hB : N + 300 ≤ 1000000000) (hN : M + 8 ≤ 10000000) (hk : ks[i]? = some kb) (hd : ds[i]? = some db) (hs : ss[i]? = some s) (K p a b c d : Int) (wt : Bool) (ha : i64 a) :
    Calls Tryz.prog 65 #[.pointer (some ⟨wb, 0, none⟩), .agg #[.int .i64 10, .int .i64 K, .int .i64 p, .int .i64 a, .int .i64 b, .int .i64 c, .int .i64 d, .bool wt], kptr kb, dkPtr db] w fun r w' => r = .returned (.bool true) ∧ ∃ own', PI w' wb own' (N + 202) M xv yv ks ds ss ss ∧ UB w.heap.size (owned own) (owned own') w w' := by
  have hi := h.inv hk hs
  have HLT : Hid (¬ owned own w.heap.size) := fun ho => by obtain ⟨j, hj⟩ := ho; exact absurd (h.o.lt j _ hj) (Nat.lt_irrefl _)
  have hbx := (Below.refl w.heap.size w).alloc (Nat.le_refl _) (.cells #[.int .i64 10, .int .i64 K, .int .i64 p, .int .i64 a, .int .i64 b, .int .i64 c, .int .i64 d, .bool wt] 77)
  have HNX := Hid.mk (heap_alloc_new w (.cells #[.int .i64 10, .int .i64 K, .int .i64 p, .int .i64 a, .int .i64 b, .int .i64 c, .int .i64 d, .bool wt] 77))
  have HKW := Hid.mk (h.kholds hk hs hbx a ha)
  have HDW := Hid.mk (fun w1 own1 (h1 : PI w1 wb own1 N M xv yv ks ds ss ss) => h1.dholds hi (by omega) hd hs a)
  have hwl : (s.holds a).length ≤ 100 := by
    unfold DS.holds
    split
    · rw [List.length_map]; exact hi.toBas.sm.wl _
    · simp
  have HPS : Hid (∀ x, x ∈ s.holds a → x.ps.length ≤ 6) := fun x hx => by
    unfold DS.holds at hx
    split at hx
    · obtain ⟨y, _, rfl⟩ := List.mem_map.1 hx
      unfold DS.users
      exact List.length_filter_le _ _
    · cases hx
  have hwb : wb < w.heap.size := by obtain ⟨iv, dv, rv, fv, n, ei, ed, er, ef, hw⟩ := h.b; exact hw.lt
  clear h hi hbx hk hd hs ha
  unfold kptr dkPtr at *
  generalize s.holds a = L at *
  go_enter Tryz.func65, Tryz.ntmps65
  go_wp2_with (first
    | (go_at_call 27; refine HKW.out.mono ?_; rintro r w1 ⟨v1, vs, own1, rfl, hp1, hu1, ht1⟩; obtain ⟨va, vc, rfl⟩ := own_form ht1.row; have hz1 := hu1.size; simp at hz1; have hx1 := (hu1.block w.heap.size (by simp) HLT.out).trans HNX.out; have w1c3 : w1.cell? ⟨w.heap.size, 3, none⟩ = some (.int .i64 a) := (by simp only [World.cell?, hx1]; rfl); have HP1 := Hid.mk hp1; have HU1 : Hid (UB w.heap.size (owned own) (owned own1) w w1) := (UB.of_below ((Below.refl w.heap.size w).alloc (Nat.le_refl _) _) (Nat.le_refl _)).trans (UB.of_upd hu1 (by simp)); have HT1 := Hid.mk ht1; clear hp1 hu1 ht1 hx1)
    | (go_at_call 93; refine (HDW.out w1 own1 HP1.out).mono ?_; rintro r w2 ⟨v2, us, rfl, ho2, hb2⟩; obtain ⟨xa, xc, rfl⟩ := own_form ho2.own; have hz2 := hb2.size; have HO2 := Hid.mk ho2; have HB2 := Hid.mk hb2; have HT2 := Hid.mk (HT1.out.below hb2); clear ho2 hb2))
  go_loopw [15, 16, 17] (fun s15 s16 _ wr => ∃ j : Nat, s15 = .bool true ∧ s16 = .int .i64 j ∧ j ≤ L.length ∧ Hid (Below w2.heap.size w2 wr)) (fun _ s16 _ _ => L.length - (intOf s16).toNat)
  case atStart => exact ⟨0, by simp, rfl, Nat.zero_le _, Below.refl _ _⟩
  case round =>
    obtain ⟨j, rfl, rfl, hj, HB⟩ := hrel
    have hzr := HB.out.size
    by_cases hlt : j < L.length
    · have hlt' : (j : Int) < (L.length : Int) := by omega
      obtain ⟨x, hx⟩ : ∃ x, L[j]? = some x := ⟨_, List.getElem?_eq_getElem hlt⟩
      obtain ⟨u, hu⟩ : ∃ u, vs[j]? = some u := ⟨_, List.getElem?_eq_getElem (by rw [HT2.out.len]; exact hlt)⟩
      obtain ⟨t, ht⟩ : ∃ t, us[j]? = some t := ⟨_, List.getElem?_eq_getElem (by rw [HO2.out.len]; exact hlt)⟩
      have hxl := HPS.out x (List.mem_of_getElem? hx)
      have hou := own_below (HT2.out.each j x u hx hu) HB.out
      have hot := own_below (HO2.out.each j x t hx ht) HB.out
      obtain ⟨ua, uc, rfl⟩ := own_form hou
      obtain ⟨ta, tc, rfl⟩ := own_form hot
      obtain ⟨g, rfl, _, hg, q0, q1⟩ := hd_at (own_below HT2.out.row HB.out) hx hu
      obtain ⟨g2, rfl, _, hg2, p0, p1⟩ := hd_at (own_below HO2.out.own HB.out) hx ht
      have HSI := Hid.mk (fun W (hW : Below wr.heap.size wr W) => sameInts_any (own_below hou hW) (own_below hot hW) (by omega))
      clear hx hu ht hou hot
      go_wp2
      go_region_held3 (fun u => u.cell? ⟨g, j * 2 + 1, none⟩ = some (.slice ua x.ps.length uc) ∧ u.cell? ⟨g2, j * 2 + 1, none⟩ = some (.slice ta x.ps.length tc)) (simp [go_sem, *])
        (first
          | (go_at_call 94; refine (HSI.out _ ?_).mono ?_; exact (Below.refl _ _).drew; rintro r w3 ⟨rfl, hb3⟩; have hb3' : Below wr.heap.size wr w3 := ⟨hb3.os, hb3.tape, hb3.output, hb3.size, hb3.block⟩; have z0 := (hb3'.cell (p := ⟨g, j * 2, none⟩) hg).trans q0; have z1 := (hb3'.cell (p := ⟨g, j * 2 + 1, none⟩) hg).trans q1; have y0 := (hb3'.cell (p := ⟨g2, j * 2, none⟩) hg2).trans p0; have y1 := (hb3'.cell (p := ⟨g2, j * 2 + 1, none⟩) hg2).trans p1; have hz3 := hb3'.size; have HB3 := Hid.mk hb3'; clear hb3 hb3'))
      have hg3 : g < w3.heap.size := by omega
      have hg4 : g2 < w3.heap.size := by omega
      go_wp2
      go_quiet (fail)
      go_wp2
      go_roundw
      case rel => exact ⟨j + 1, by simp, by go_num, by omega, Below.drewN (HB.out.trans (HB3.out.mono (by omega))) _⟩
      case measure => simp [intOf]; omega
    · have HIL : Hid (j = L.length) := by show _ = _; omega
      have hno : ¬ ((j : Int) < (L.length : Int)) := by omega
      obtain ⟨w0, hw0⟩ : ∃ w0, w0 = wr := ⟨_, rfl⟩
      subst hw0
      have HL0 : Hid (HL w w0 w.heap.size wb own1 N M xv yv ks ds ss own (.slice va L.length vc) L vs 0) := by
        have ht3 := HT2.out.below HB.out
        have hle : w.heap.size ≤ (w.alloc (.cells #[.int .i64 10, .int .i64 K, .int .i64 p, .int .i64 a, .int .i64 b, .int .i64 c, .int .i64 d, .bool wt] 77)).heap.size := by simp
        exact ⟨ht3.len, (HP1.out.below HB2.out).below HB.out, (HU1.out.trans (UB.of_below HB2.out (by omega))).trans (UB.of_below HB.out (by omega)), own_mono ht3.row hle, fun j h u _ h1 h2 => own_mono (ht3.each j h u h1 h2) hle, ht3.far _ List.mem_cons_self, fun j u _ h1 => ht3.far u (List.mem_cons_of_mem _ (List.mem_of_getElem? h1))⟩
      have HAP := Hid.mk HT2.out.apart
      go_wp2
      go_loopw [18] (fun s18 wr => ∃ (n : Nat) (own2 : Nat → Nat → Prop), s18 = .int .i64 n ∧ n ≤ L.length ∧ Hid (HL w wr w.heap.size wb own2 N M xv yv ks ds ss own (.slice va L.length vc) L vs n) ∧ Hid (w0.heap.size ≤ wr.heap.size)) (fun s18 _ => L.length - (intOf s18).toNat)
      case atStart => exact ⟨0, own1, rfl, Nat.zero_le _, HL0.out, Nat.le_refl _⟩
      case round =>
        obtain ⟨n, own2, rfl, hn, HLn, HZ⟩ := hrel
        have hz9 := HZ.out
        by_cases hnl : n < L.length
        · have hnl' : (n : Int) < (L.length : Int) := by omega
          obtain ⟨x, hx⟩ : ∃ x, L[n]? = some x := ⟨_, List.getElem?_eq_getElem hnl⟩
          obtain ⟨u, hu⟩ : ∃ u, vs[n]? = some u := ⟨_, List.getElem?_eq_getElem (by rw [HLn.out.len]; exact hnl)⟩
          have hxl := HPS.out x (List.mem_of_getElem? hx)
          have hou := HLn.out.each n x u (Nat.le_refl _) hx hu
          obtain ⟨ua, uc, rfl⟩ := own_form hou
          obtain ⟨g, rfl, _, hg, q0, q1⟩ := hd_at HLn.out.row hx hu
          have HX := Hid.mk hx
          have HUU := Hid.mk hu
          have HCI : Hid (Calls Tryz.prog 95 #[.pointer (some ⟨wb, 2, none⟩), .slice ua x.ps.length uc] wr.drew fun r w' => r = .returned (.tuple #[]) ∧ BkUpd wr w' wb (own2 0) (.slice ua x.ps.length uc) (N + 2 * n + 2) ks ds xv yv) := by
            obtain ⟨iv, dv, rv, fv, m, ei, ed, er, ef, hw⟩ := HLn.out.pi.b
            have hw' := hw.frame (w' := wr.drew) (P' := own2 0) fun b hp _ => ⟨rfl, hp⟩
            refine (bInts hw' (by omega) (own_blk hou fun _ _ => rfl) (by omega) (fun b e ho => HLn.out.farj n _ (Nat.le_refl _) hu b e ⟨0, ho⟩)).mono ?_
            rintro r w' ⟨hr, P', h1, h2, h3⟩
            exact ⟨hr, P', h1, h2, ⟨h3.os, h3.tape, h3.output, h3.size, h3.block, h3.old⟩⟩
          clear hx hu hou
          go_wp2
          go_region_held3 (fun u => u.cell? ⟨g, n * 2 + 1, none⟩ = some (.slice ua x.ps.length uc)) (simp [go_sem, *])
            (first
              | (go_at_call 95; refine HCI.out.mono ?_; rintro r w3 ⟨rfl, hbk⟩; have hz3 : wr.heap.size ≤ w3.heap.size := (by obtain ⟨P', _, _, h3⟩ := hbk; exact h3.size); have HST := Hid.mk (HLn.out.step (by omega) HAP.out HX.out HUU.out hbk); have k1 : w3.cell? ⟨g, n * 2 + 1, none⟩ = some (.slice ua x.ps.length uc) := (by obtain ⟨own3, h4⟩ := HST.out; obtain ⟨g5, h5, _, _, _, h6⟩ := hd_at h4.row HX.out HUU.out; cases h5; exact h6); clear hbk))
          go_wp2
          go_roundw
          case rel =>
            obtain ⟨own3, h4⟩ := HST.out
            exact ⟨n + 1, own3, by go_num, by omega, h4, by show w0.heap.size ≤ w3.heap.size; omega⟩
          case measure => simp [intOf]; omega
        · have HNL : Hid (n = L.length) := by show _ = _; omega
          have hno2 : ¬ ((n : Int) < (L.length : Int)) := by omega
          go_wp2_with (go_at_call 96; obtain ⟨iv, dv, rv, fv, m, ei, ed, er, ef, hw⟩ := HLn.out.pi.b; refine (bF hw (by omega) HLn.out.row (by omega) (fun b e ho => HLn.out.far b e ⟨0, ho⟩)).mono ?_; rintro r w4 ⟨rfl, hbk⟩; have HTK := Hid.mk (HLn.out.pi.take (B := w.heap.size) (by omega) (fun b e => ⟨(HLn.out.row.lt b e).1, (HLn.out.row.lt b e).2, HLn.out.far b e⟩) (Below.refl _ _) (by omega) hbk); clear hbk hw)
          go_ret
          obtain ⟨own4, hp4, hu4⟩ := HTK.out
          exact ⟨rfl, own4, hp4.more (by omega), HLn.out.ub.trans hu4⟩
end
end Go.Proofs.YtaicdjhblbobbaaGreat

/- Any call, anything told, on a Kernel and its Desk. -/
namespace Go.Proofs.YtaicdjhblbobbaaGreat
open Go.RowKit Go.Lib

section
variable {w : World} {wb : Nat} {own : Nat → Nat → Prop} {N M : Nat} {xv yv : Value} {ks ds : List Nat} {ss : List DS} {i kb db : Nat} {s : DS}
/-- The world behind one step: some Kernels and Desks in equal states, and not much more than before. -/
def Stp (w w' : World) (wb : Nat) (own : Nat → Nat → Prop) (N M : Nat) : Prop := ∃ xv yv ks' ds' ss' own', PI w' wb own' N M xv yv ks' ds' ss' ss' ∧ UB w.heap.size (owned own) (owned own') w w'
/-- The same, and the rows stand where they stood. -/
def StS (w w' : World) (wb : Nat) (own : Nat → Nat → Prop) (N M : Nat) (xv yv : Value) (ks ds : List Nat) : Prop := ∃ ss' own', PI w' wb own' N M xv yv ks ds ss' ss' ∧ UB w.heap.size (owned own) (owned own') w w'
theorem called_any (h : PI w wb own N M xv yv ks ds ss ss) (hB : N + 9 ≤ 1000000000) (hN : M + 8 ≤ 10000000) (hk : ks[i]? = some kb) (hd : ds[i]? = some db) (hs : ss[i]? = some s) (kind K p a b c d : Int) (wt : Bool) (hp : i64 p) (ha : i64 a) (hb : i64 b) (hc : i64 c) (he : i64 d) :
    Calls Tryz.prog 66 #[.pointer (some ⟨wb, 0, none⟩), .agg #[.int .i64 kind, .int .i64 K, .int .i64 p, .int .i64 a, .int .i64 b, .int .i64 c, .int .i64 d, .bool wt], kptr kb, dkPtr db] w fun r w' => r = .returned (.bool true) ∧ StS w w' wb own (N + 202) (M + 7) xv yv ks ds := by
  have fin : ∀ {s' : DS} {r : Ending} {w' : World}, (r = .returned (.bool true) ∧ ∃ own', PI w' wb own' (N + 2) (M + 7) xv yv ks ds (ss.set i s') (ss.set i s') ∧ UB w.heap.size (owned own) (owned own') w w') → r = .returned (.bool true) ∧ StS w w' wb own (N + 202) (M + 7) xv yv ks ds := fun {s' r w'} h => by
    obtain ⟨h1, own', h2, h3⟩ := h
    exact ⟨h1, _, own', h2.more (by omega), h3⟩
  by_cases k1 : kind = 1
  · subst k1; exact (called_fork h hB hN hk hd hs K p a b c d wt hp).mono fun _ _ h => fin h
  by_cases k3 : kind = 3
  · subst k3; exact (called_open h hB hN hk hd hs K p a b c d wt ⟨hp, ha⟩).mono fun _ _ h => fin h
  by_cases k4 : kind = 4
  · subst k4; exact (called_dup h hB hN hk hd hs K p a b c d wt ⟨hp, ha⟩).mono fun _ _ h => fin h
  by_cases k7 : kind = 7
  · subst k7; exact (called_test h hB hN hk hd hs K p a b c d wt ⟨hp, ha, hb, hc, he⟩).mono fun _ _ h => fin h
  by_cases k2 : kind = 2
  · subst k2; exact (called_kill h hB hN hk hd hs K p a b c d wt hp).mono fun _ _ h => fin h
  by_cases k5 : kind = 5
  · subst k5; exact (called_close h hB hN hk hd hs K p a b c d wt ⟨hp, ha⟩).mono fun _ _ h => fin h
  by_cases k9 : kind = 9
  · subst k9; exact (called_whole h hB hN hk hd hs K p a b c d wt ⟨hp, ha, hb⟩).mono fun _ _ h => fin h
  exact (called_lock h hB hN hk hd hs K p a b c d wt ⟨hp, ha, hb, hc, he⟩ ⟨k1, k3, k4, k7, k2, k5, k9⟩).mono fun _ _ h => fin h
theorem told_any (h : PI w wb own N M xv yv ks ds ss ss) (hB : N + 300 ≤ 1000000000) (hN : M + 8 ≤ 10000000) (hk : ks[i]? = some kb) (hd : ds[i]? = some db) (hs : ss[i]? = some s) (kind K p a b c d : Int) (hkind : kind = 8 ∨ kind = 10 ∨ kind = 11) (wt : Bool) (ha : i64 a) :
    Calls Tryz.prog 65 #[.pointer (some ⟨wb, 0, none⟩), .agg #[.int .i64 kind, .int .i64 K, .int .i64 p, .int .i64 a, .int .i64 b, .int .i64 c, .int .i64 d, .bool wt], kptr kb, dkPtr db] w fun r w' => r = .returned (.bool true) ∧ StS w w' wb own (N + 202) (M + 7) xv yv ks ds := by
  rcases hkind with rfl | rfl | rfl
  · refine (told_runs h (by omega) hN hk hd hs K p a b c d wt ha).mono ?_
    rintro r w' ⟨h1, own', h2, h3⟩
    exact ⟨h1, ss, own', (h2.more (by omega)).moreD (by omega), h3⟩
  · refine (told_holds h hB hN hk hd hs K p a b c d wt ha).mono ?_
    rintro r w' ⟨h1, own', h2, h3⟩
    exact ⟨h1, ss, own', (h2.more (by omega)).moreD (by omega), h3⟩
  · refine (told_waiting h (by omega) hN hk hd hs K p a b c d wt).mono ?_
    rintro r w' ⟨h1, own', h2, h3⟩
    exact ⟨h1, ss, own', (h2.more (by omega)).moreD (by omega), h3⟩
theorem made_any (h : PI w wb own N M xv yv ks ds ss ss) :
    Calls Tryz.prog 37 #[.pointer (some ⟨wb, 0, none⟩)] w fun r w' => r = .returned (.bool true) ∧ Stp w w' wb own (N + 202) (M + 7) := by
  by_cases hl : ks.length < 3
  · refine (made_new h hl).mono ?_
    rintro r w' ⟨h1, kb, db, xv', yv', own', h2, h3⟩
    exact ⟨h1, _, _, _, _, _, own', (h2.more (by omega)).moreD (by omega), h3⟩
  · refine (made_full h hl).mono ?_
    rintro r w' ⟨h1, own', h2, h3⟩
    exact ⟨h1, xv, yv, ks, ds, ss, own', (h2.more (by omega)).moreD (by omega), h3⟩
end
set_option maxHeartbeats 4000000 in
set_option maxRecDepth 100000 in
theorem pick_at (c : Int) (hc : i64 c) (k : Nat) (hk : 0 < k ∧ k ≤ 3) :
    ∃ i : Nat, i < k ∧ ∀ w, Calls Tryz.prog 64 #[.int .i64 c, .int .i64 k] w fun r w' => r = .returned (.int .i64 i) ∧ w' = w := by
  obtain ⟨h1, h2⟩ := hc
  have hk0 : ¬ ((k : Int) = 0) := by omega
  have hk1 : ¬ ((k : Int) = -1) := by omega
  by_cases h0 : c < 0
  · have e : (-(c + 1)).tmod (k : Int) = -((c + 1).tmod (k : Int)) := Int.neg_tmod _ _
    have nn : 0 ≤ (-(c + 1)).tmod (k : Int) := Int.tmod_nonneg _ (by omega)
    have ll : (-(c + 1)).tmod (k : Int) < k := Int.tmod_lt_of_pos _ (by omega)
    refine ⟨(Int.tmod (-(c + 1)) k).toNat, by omega, fun w => ?_⟩
    have HE := Hid.mk e
    have HN := Hid.mk nn
    clear e nn ll
    go_enter Tryz.func64, Tryz.ntmps64
    go_wp2
    go_ret
    refine ⟨?_, rfl⟩
    show Ending.returned (Value.int .i64 (-((c + 1).tmod (k : Int)))) = _
    rw [← HE.out, Int.toNat_of_nonneg HN.out]
  · have nn : 0 ≤ c % (k : Int) := Int.emod_nonneg _ hk0
    have ll : c % (k : Int) < k := Int.emod_lt_of_pos _ (by omega)
    obtain ⟨n, hn⟩ : ∃ n : Nat, (n : Int) = c % (k : Int) := ⟨(c % (k : Int)).toNat, Int.toNat_of_nonneg nn⟩
    refine ⟨n, by omega, fun w => ?_⟩
    have HN := Hid.mk hn
    clear nn ll hn
    go_enter Tryz.func64, Tryz.ntmps64
    go_wp2
    go_ret
    refine ⟨?_, rfl⟩
    rw [HN.out]
    rfl
end Go.Proofs.YtaicdjhblbobbaaGreat

/- One step of the statements. -/
namespace Go.Proofs.YtaicdjhblbobbaaGreat
open Go.RowKit Go.Lib

section
variable {w : World} {wb : Nat} {own : Nat → Nat → Prop} {N M : Nat} {xv yv : Value} {ks ds : List Nat} {ss : List DS}
theorem Stp.below {w0 w w' : World} {n : Nat} (h : Stp w w' wb own N M) (hb : Below n w0 w) (hn : w0.heap.size ≤ n) : Stp w0 w' wb own N M := by
  obtain ⟨xv', yv', ks', ds', ss', own', h1, h2⟩ := h
  have hz := hb.size
  exact ⟨xv', yv', ks', ds', ss', own', h1, ⟨h2.os.trans hb.os, h2.tape.trans hb.tape, h2.output.trans hb.output, Nat.le_trans hz h2.size, fun k hk hq => (h2.block k (by omega) hq).trans (hb.block k (by omega)), fun k hk hq => h2.old k (by omega) hq⟩⟩
theorem Stp.same (h : PI w wb own N M xv yv ks ds ss ss) {w' : World} (hb : Below w.heap.size w w') : Stp w w' wb own (N + 202) (M + 7) :=
  ⟨xv, yv, ks, ds, ss, own, ((h.below hb).more (by omega)).moreD (by omega), UB.of_below hb (Nat.le_refl _)⟩
set_option maxHeartbeats 8000000 in
set_option maxRecDepth 100000 in
theorem step_none (h : PI w wb own N M xv yv ks ds ss ss) (kind K p a b c d : Int) (wt : Bool) (h13 : kind ≠ 13) (hk : kind < 1 ∨ 12 < kind ∨ ks.length = 0) :
    Calls Tryz.prog 38 #[.pointer (some ⟨wb, 0, none⟩), .agg #[.int .i64 kind, .int .i64 K, .int .i64 p, .int .i64 a, .int .i64 b, .int .i64 c, .int .i64 d, .bool wt]] w fun r w' => r = .returned (.bool true) ∧ Stp w w' wb own (N + 202) (M + 7) := by
  obtain ⟨iv, dv, rv, fv, n, ei, ed, er, ef, hw⟩ := h.b
  obtain ⟨xa, xc, rfl⟩ := own_form hw.x
  have HH := Hid.mk h
  have c0 : w.cell? ⟨wb, 0, none⟩ = some (.slice xa ks.length xc) := hw.cell 0
  have hwb := hw.lt
  have e13 : (kind == 13) = false := by simpa using h13
  clear h hw h13
  by_cases k1 : kind < 1
  · clear hk
    go_enter Tryz.func38, Tryz.ntmps38
    go_wp2
    go_ret
    exact ⟨rfl, Stp.same HH.out ((Below.refl _ _).alloc (Nat.le_refl _) _)⟩
  · by_cases k2 : 12 < kind
    · clear hk
      go_enter Tryz.func38, Tryz.ntmps38
      go_wp2
      go_ret
      exact ⟨rfl, Stp.same HH.out ((Below.refl _ _).alloc (Nat.le_refl _) _)⟩
    · have hz : ((ks.length : Int) == 0) = true := by simp; rcases hk with g | g | g; exact absurd g k1; exact absurd g k2; exact List.eq_nil_of_length_eq_zero g
      clear hk
      go_enter Tryz.func38, Tryz.ntmps38
      go_wp2
      go_ret
      exact ⟨rfl, Stp.same HH.out ((Below.refl _ _).alloc (Nat.le_refl _) _)⟩
set_option maxHeartbeats 8000000 in
set_option maxRecDepth 100000 in
theorem step_made (h : PI w wb own N M xv yv ks ds ss ss) (K p a b c d : Int) (wt : Bool) :
    Calls Tryz.prog 38 #[.pointer (some ⟨wb, 0, none⟩), .agg #[.int .i64 13, .int .i64 K, .int .i64 p, .int .i64 a, .int .i64 b, .int .i64 c, .int .i64 d, .bool wt]] w fun r w' => r = .returned (.bool true) ∧ Stp w w' wb own (N + 202) (M + 7) := by
  have HM := Hid.mk (made_any (h.below ((Below.refl w.heap.size w).alloc (Nat.le_refl _) (.cells #[.int .i64 13, .int .i64 K, .int .i64 p, .int .i64 a, .int .i64 b, .int .i64 c, .int .i64 d, .bool wt] 77))))
  clear h
  go_enter Tryz.func38, Tryz.ntmps38
  go_wp2_with (go_at_call 37; refine HM.out.mono ?_; rintro r w1 ⟨rfl, hs⟩; have HS := Hid.mk hs; clear hs)
  go_ret
  exact ⟨rfl, HS.out.below ((Below.refl w.heap.size w).alloc (Nat.le_refl _) _) (Nat.le_refl _)⟩
end
end Go.Proofs.YtaicdjhblbobbaaGreat

/- One step of the statements on a Kernel. -/
namespace Go.Proofs.YtaicdjhblbobbaaGreat
open Go.RowKit Go.Lib

section
variable {w : World} {wb : Nat} {own : Nat → Nat → Prop} {N M : Nat} {xv yv : Value} {ks ds : List Nat} {ss : List DS}
/-- Where the Kernel and the Desk of number i stand. -/
theorem PI.rows {sk sd : List DS} {gx gy xc yc i kb db : Nat} (h : PI w wb own N M (.slice (some ⟨gx, 0, none⟩) ks.length xc) (.slice (some ⟨gy, 0, none⟩) ds.length yc) ks ds sk sd) (hk : ks[i]? = some kb) (hd : ds[i]? = some db) :
    w.cell? ⟨wb, 0, none⟩ = some (.slice (some ⟨gx, 0, none⟩) ks.length xc) ∧ w.cell? ⟨wb, 1, none⟩ = some (.slice (some ⟨gy, 0, none⟩) ds.length yc) ∧ w.cell? ⟨gx, i, none⟩ = some (.pointer (some ⟨kb, 0, none⟩)) ∧ w.cell? ⟨gy, i, none⟩ = some (.pointer (some ⟨db, 0, none⟩)) ∧ gx < w.heap.size ∧ gy < w.heap.size ∧ wb < w.heap.size := by
  obtain ⟨iv, dv, rv, fv, n, ei, ed, er, ef, hw⟩ := h.b
  have hi := (List.getElem?_eq_some_iff.1 hk).1
  have hi2 := (List.getElem?_eq_some_iff.1 hd).1
  obtain ⟨g1, e1, _, hg1, _, hc1⟩ := own_some hw.x (by omega)
  obtain ⟨g2, e2, _, hg2, _, hc2⟩ := own_some hw.y (by omega)
  cases e1
  cases e2
  refine ⟨hw.cell 0, hw.cell 1, ?_, ?_, hg1, hg2, hw.lt⟩
  · rw [hc1 i (by omega), List.getElem?_map, hk]; rfl
  · rw [hc2 i (by omega), List.getElem?_map, hd]; rfl
theorem StS.below {w0 w w' : World} {n : Nat} (h : StS w w' wb own N M xv yv ks ds) (hb : Below n w0 w) (hn : w0.heap.size ≤ n) : Stp w0 w' wb own N M := by
  obtain ⟨ss', own', h1, h2⟩ := h
  have hs : Stp w w' wb own N M := ⟨_, _, _, _, _, _, h1, h2⟩
  exact hs.below hb hn
set_option maxHeartbeats 8000000 in
set_option maxRecDepth 100000 in
theorem step_call (h : PI w wb own N M xv yv ks ds ss ss) (hB : N + 300 ≤ 1000000000) (hN : M + 8 ≤ 10000000) (kind K p a b c d : Int) (wt : Bool) (hK : i64 K) (hp : i64 p) (ha : i64 a) (hb : i64 b) (hc : i64 c) (he : i64 d) (h1 : ¬ (kind < 1)) (h12 : ¬ (12 < kind)) (hk0 : 0 < ks.length) (hkd : kind ≠ 8 ∧ kind ≠ 10 ∧ kind ≠ 11) :
    Calls Tryz.prog 38 #[.pointer (some ⟨wb, 0, none⟩), .agg #[.int .i64 kind, .int .i64 K, .int .i64 p, .int .i64 a, .int .i64 b, .int .i64 c, .int .i64 d, .bool wt]] w fun r w' => r = .returned (.bool true) ∧ Stp w w' wb own (N + 202) (M + 7) := by
  obtain ⟨iv, dv, rv, fv, n, ei, ed, er, ef, hw⟩ := h.b
  have hll : ks.length ≤ 3 := by rw [h.lk]; exact h.le.2
  have hdl : ds.length = ks.length := by rw [h.ld, h.lk]
  have hsl : ss.length = ks.length := h.lk.symm
  obtain ⟨i, hi, hpk⟩ := pick_at K hK ks.length ⟨hk0, hll⟩
  have HPK := Hid.mk hpk
  obtain ⟨kb, hkb⟩ : ∃ kb, ks[i]? = some kb := ⟨_, List.getElem?_eq_getElem hi⟩
  obtain ⟨db, hdb⟩ : ∃ db, ds[i]? = some db := ⟨_, List.getElem?_eq_getElem (by omega)⟩
  obtain ⟨s, hs⟩ : ∃ s, ss[i]? = some s := ⟨_, List.getElem?_eq_getElem (by omega)⟩
  obtain ⟨xa, xc, rfl⟩ := own_form hw.x
  obtain ⟨ya, yc, rfl⟩ := own_form hw.y
  obtain ⟨gx, rfl, -⟩ := own_some hw.x (by omega)
  obtain ⟨gy, rfl, -⟩ := own_some hw.y (by omega)
  obtain ⟨c0, c1, cx, cy, hgx, hgy, hwb⟩ := h.rows hkb hdb
  have HLT : Hid (¬ owned own w.heap.size) := fun ho => by obtain ⟨j, hj⟩ := ho; exact absurd (h.o.lt j _ hj) (Nat.lt_irrefl _)
  have HNX := Hid.mk (heap_alloc_new w (.cells #[.int .i64 kind, .int .i64 K, .int .i64 p, .int .i64 a, .int .i64 b, .int .i64 c, .int .i64 d, .bool wt] 77))
  have HC := Hid.mk (fun (W : World) (hW : Below w.heap.size w W) => called_any (h.below hW) (by omega) hN hkb hdb hs kind K p a b c d wt hp ha hb hc he)
  have HKB := Hid.mk hkb
  have HDB := Hid.mk hdb
  have e13 : (kind == 13) = false := by simp; omega
  have e8 : (kind == 8) = false := by simpa using hkd.1
  have e10 : (kind == 10) = false := by simpa using hkd.2.1
  have e11 : (kind == 11) = false := by simpa using hkd.2.2
  have hz : ((ks.length : Int) == 0) = false := by simp; intro e; subst e; simp at hk0
  have hi' : (i : Int) < (ks.length : Int) := by omega
  have hid : (i : Int) < (ds.length : Int) := by omega
  have hi0 : ¬ ((i : Int) < 0) := by omega
  clear h hw hpk hkb hdb hs hp ha hb hc he hK hkd hdl hsl
  unfold kptr dkPtr at *
  go_enter Tryz.func38, Tryz.ntmps38
  go_wp2_with fail
  go_quiet ((go_at_call 64; exact Calls.quiet_of_same (HPK.out _)))
  go_wp2_with fail
  go_region_held3 (fun u => u.cell? ⟨w.heap.size, 0, none⟩ = some (.int .i64 kind) ∧ u.cell? ⟨w.heap.size, 1, none⟩ = some (.int .i64 K) ∧ u.cell? ⟨w.heap.size, 2, none⟩ = some (.int .i64 p) ∧ u.cell? ⟨w.heap.size, 3, none⟩ = some (.int .i64 a) ∧ u.cell? ⟨w.heap.size, 4, none⟩ = some (.int .i64 b) ∧ u.cell? ⟨w.heap.size, 5, none⟩ = some (.int .i64 c) ∧ u.cell? ⟨w.heap.size, 6, none⟩ = some (.int .i64 d) ∧ u.cell? ⟨w.heap.size, 7, none⟩ = some (.bool wt) ∧ u.cell? ⟨wb, 0, none⟩ = some (.slice (some ⟨gx, 0, none⟩) ks.length xc) ∧ u.cell? ⟨wb, 1, none⟩ = some (.slice (some ⟨gy, 0, none⟩) ds.length yc) ∧ u.cell? ⟨gx, i, none⟩ = some (.pointer (some ⟨kb, 0, none⟩)) ∧ u.cell? ⟨gy, i, none⟩ = some (.pointer (some ⟨db, 0, none⟩))) (simp [go_sem, World.cell?_alloc_past, *])
    (first
      | (go_at_call 66; refine (HC.out _ ?_).mono ?_; exact (Below.drewN ((Below.refl _ _).alloc (Nat.le_refl _) _) _).drew; rintro r w1 ⟨rfl, ss1, own1, hp1, hu1⟩; have hbx := (hu1.block w.heap.size (by simp) HLT.out).trans HNX.out; have x0 : w1.cell? ⟨w.heap.size, 0, none⟩ = some (.int .i64 kind) := (by simp only [World.cell?, hbx]; rfl); have x1 : w1.cell? ⟨w.heap.size, 1, none⟩ = some (.int .i64 K) := (by simp only [World.cell?, hbx]; rfl); have x2 : w1.cell? ⟨w.heap.size, 2, none⟩ = some (.int .i64 p) := (by simp only [World.cell?, hbx]; rfl); have x3 : w1.cell? ⟨w.heap.size, 3, none⟩ = some (.int .i64 a) := (by simp only [World.cell?, hbx]; rfl); have x4 : w1.cell? ⟨w.heap.size, 4, none⟩ = some (.int .i64 b) := (by simp only [World.cell?, hbx]; rfl); have x5 : w1.cell? ⟨w.heap.size, 5, none⟩ = some (.int .i64 c) := (by simp only [World.cell?, hbx]; rfl); have x6 : w1.cell? ⟨w.heap.size, 6, none⟩ = some (.int .i64 d) := (by simp only [World.cell?, hbx]; rfl); have x7 : w1.cell? ⟨w.heap.size, 7, none⟩ = some (.bool wt) := (by simp only [World.cell?, hbx]; rfl); obtain ⟨r0, r1, r2, r3, _, _, _⟩ := hp1.rows HKB.out HDB.out; have HS : Hid (Stp w w1 wb own (N + 202) (M + 7)) := StS.below ⟨ss1, own1, hp1, hu1⟩ (Below.drewN ((Below.refl _ _).alloc (Nat.le_refl _) _) _).drew (Nat.le_refl _); clear hp1 hu1 hbx))
  go_wp2
  go_ret
  exact ⟨rfl, HS.out⟩
end
end Go.Proofs.YtaicdjhblbobbaaGreat

/- One step of the statements that asks a Kernel. -/
namespace Go.Proofs.YtaicdjhblbobbaaGreat
open Go.RowKit Go.Lib

section
variable {w : World} {wb : Nat} {own : Nat → Nat → Prop} {N M : Nat} {xv yv : Value} {ks ds : List Nat} {ss : List DS}
set_option maxHeartbeats 8000000 in
set_option maxRecDepth 100000 in
theorem step_told8 (h : PI w wb own N M xv yv ks ds ss ss) (hB : N + 300 ≤ 1000000000) (hN : M + 8 ≤ 10000000) (K p a b c d : Int) (wt : Bool) (hK : i64 K) (ha : i64 a) (hk0 : 0 < ks.length) :
    Calls Tryz.prog 38 #[.pointer (some ⟨wb, 0, none⟩), .agg #[.int .i64 8, .int .i64 K, .int .i64 p, .int .i64 a, .int .i64 b, .int .i64 c, .int .i64 d, .bool wt]] w fun r w' => r = .returned (.bool true) ∧ Stp w w' wb own (N + 202) (M + 7) := by
  obtain ⟨iv, dv, rv, fv, n, ei, ed, er, ef, hw⟩ := h.b
  have hll : ks.length ≤ 3 := by rw [h.lk]; exact h.le.2
  have hdl : ds.length = ks.length := by rw [h.ld, h.lk]
  have hsl : ss.length = ks.length := h.lk.symm
  obtain ⟨i, hi, hpk⟩ := pick_at K hK ks.length ⟨hk0, hll⟩
  have HPK := Hid.mk hpk
  obtain ⟨kb, hkb⟩ : ∃ kb, ks[i]? = some kb := ⟨_, List.getElem?_eq_getElem hi⟩
  obtain ⟨db, hdb⟩ : ∃ db, ds[i]? = some db := ⟨_, List.getElem?_eq_getElem (by omega)⟩
  obtain ⟨s, hs⟩ : ∃ s, ss[i]? = some s := ⟨_, List.getElem?_eq_getElem (by omega)⟩
  obtain ⟨xa, xc, rfl⟩ := own_form hw.x
  obtain ⟨ya, yc, rfl⟩ := own_form hw.y
  obtain ⟨gx, rfl, -⟩ := own_some hw.x (by omega)
  obtain ⟨gy, rfl, -⟩ := own_some hw.y (by omega)
  obtain ⟨c0, c1, cx, cy, hgx, hgy, hwb⟩ := h.rows hkb hdb
  have HLT : Hid (¬ owned own w.heap.size) := fun ho => by obtain ⟨j, hj⟩ := ho; exact absurd (h.o.lt j _ hj) (Nat.lt_irrefl _)
  have HNX := Hid.mk (heap_alloc_new w (.cells #[.int .i64 8, .int .i64 K, .int .i64 p, .int .i64 a, .int .i64 b, .int .i64 c, .int .i64 d, .bool wt] 77))
  have HC := Hid.mk (fun (W : World) (hW : Below w.heap.size w W) => told_any (h.below hW) hB hN hkb hdb hs 8 K p a b c d (Or.inl rfl) wt ha)
  have HKB := Hid.mk hkb
  have HDB := Hid.mk hdb
  have hz : ((ks.length : Int) == 0) = false := by simp; intro e; subst e; simp at hk0
  have hi' : (i : Int) < (ks.length : Int) := by omega
  have hid : (i : Int) < (ds.length : Int) := by omega
  have hi0 : ¬ ((i : Int) < 0) := by omega
  clear h hw hpk hkb hdb hs ha hK hdl hsl
  unfold kptr dkPtr at *
  go_enter Tryz.func38, Tryz.ntmps38
  go_wp2_with fail
  go_quiet ((go_at_call 64; exact Calls.quiet_of_same (HPK.out _)))
  go_wp2_with fail
  go_region_held3 (fun u => u.cell? ⟨w.heap.size, 0, none⟩ = some (.int .i64 8) ∧ u.cell? ⟨w.heap.size, 1, none⟩ = some (.int .i64 K) ∧ u.cell? ⟨w.heap.size, 2, none⟩ = some (.int .i64 p) ∧ u.cell? ⟨w.heap.size, 3, none⟩ = some (.int .i64 a) ∧ u.cell? ⟨w.heap.size, 4, none⟩ = some (.int .i64 b) ∧ u.cell? ⟨w.heap.size, 5, none⟩ = some (.int .i64 c) ∧ u.cell? ⟨w.heap.size, 6, none⟩ = some (.int .i64 d) ∧ u.cell? ⟨w.heap.size, 7, none⟩ = some (.bool wt) ∧ u.cell? ⟨wb, 0, none⟩ = some (.slice (some ⟨gx, 0, none⟩) ks.length xc) ∧ u.cell? ⟨wb, 1, none⟩ = some (.slice (some ⟨gy, 0, none⟩) ds.length yc) ∧ u.cell? ⟨gx, i, none⟩ = some (.pointer (some ⟨kb, 0, none⟩)) ∧ u.cell? ⟨gy, i, none⟩ = some (.pointer (some ⟨db, 0, none⟩))) (simp [go_sem, World.cell?_alloc_past, *])
    (first
      | (go_at_call 65; refine (HC.out _ ?_).mono ?_; exact (Below.drewN ((Below.refl _ _).alloc (Nat.le_refl _) _) _).drew; rintro r w1 ⟨rfl, ss1, own1, hp1, hu1⟩; have hbx := (hu1.block w.heap.size (by simp) HLT.out).trans HNX.out; have x0 : w1.cell? ⟨w.heap.size, 0, none⟩ = some (.int .i64 8) := (by simp only [World.cell?, hbx]; rfl); have x1 : w1.cell? ⟨w.heap.size, 1, none⟩ = some (.int .i64 K) := (by simp only [World.cell?, hbx]; rfl); have x2 : w1.cell? ⟨w.heap.size, 2, none⟩ = some (.int .i64 p) := (by simp only [World.cell?, hbx]; rfl); have x3 : w1.cell? ⟨w.heap.size, 3, none⟩ = some (.int .i64 a) := (by simp only [World.cell?, hbx]; rfl); have x4 : w1.cell? ⟨w.heap.size, 4, none⟩ = some (.int .i64 b) := (by simp only [World.cell?, hbx]; rfl); have x5 : w1.cell? ⟨w.heap.size, 5, none⟩ = some (.int .i64 c) := (by simp only [World.cell?, hbx]; rfl); have x6 : w1.cell? ⟨w.heap.size, 6, none⟩ = some (.int .i64 d) := (by simp only [World.cell?, hbx]; rfl); have x7 : w1.cell? ⟨w.heap.size, 7, none⟩ = some (.bool wt) := (by simp only [World.cell?, hbx]; rfl); obtain ⟨r0, r1, r2, r3, _, _, _⟩ := hp1.rows HKB.out HDB.out; have HS : Hid (Stp w w1 wb own (N + 202) (M + 7)) := StS.below ⟨ss1, own1, hp1, hu1⟩ (Below.drewN ((Below.refl _ _).alloc (Nat.le_refl _) _) _).drew (Nat.le_refl _); clear hp1 hu1 hbx))
  go_wp2
  go_ret
  exact ⟨rfl, HS.out⟩
set_option maxHeartbeats 8000000 in
set_option maxRecDepth 100000 in
theorem step_told10 (h : PI w wb own N M xv yv ks ds ss ss) (hB : N + 300 ≤ 1000000000) (hN : M + 8 ≤ 10000000) (K p a b c d : Int) (wt : Bool) (hK : i64 K) (ha : i64 a) (hk0 : 0 < ks.length) :
    Calls Tryz.prog 38 #[.pointer (some ⟨wb, 0, none⟩), .agg #[.int .i64 10, .int .i64 K, .int .i64 p, .int .i64 a, .int .i64 b, .int .i64 c, .int .i64 d, .bool wt]] w fun r w' => r = .returned (.bool true) ∧ Stp w w' wb own (N + 202) (M + 7) := by
  obtain ⟨iv, dv, rv, fv, n, ei, ed, er, ef, hw⟩ := h.b
  have hll : ks.length ≤ 3 := by rw [h.lk]; exact h.le.2
  have hdl : ds.length = ks.length := by rw [h.ld, h.lk]
  have hsl : ss.length = ks.length := h.lk.symm
  obtain ⟨i, hi, hpk⟩ := pick_at K hK ks.length ⟨hk0, hll⟩
  have HPK := Hid.mk hpk
  obtain ⟨kb, hkb⟩ : ∃ kb, ks[i]? = some kb := ⟨_, List.getElem?_eq_getElem hi⟩
  obtain ⟨db, hdb⟩ : ∃ db, ds[i]? = some db := ⟨_, List.getElem?_eq_getElem (by omega)⟩
  obtain ⟨s, hs⟩ : ∃ s, ss[i]? = some s := ⟨_, List.getElem?_eq_getElem (by omega)⟩
  obtain ⟨xa, xc, rfl⟩ := own_form hw.x
  obtain ⟨ya, yc, rfl⟩ := own_form hw.y
  obtain ⟨gx, rfl, -⟩ := own_some hw.x (by omega)
  obtain ⟨gy, rfl, -⟩ := own_some hw.y (by omega)
  obtain ⟨c0, c1, cx, cy, hgx, hgy, hwb⟩ := h.rows hkb hdb
  have HLT : Hid (¬ owned own w.heap.size) := fun ho => by obtain ⟨j, hj⟩ := ho; exact absurd (h.o.lt j _ hj) (Nat.lt_irrefl _)
  have HNX := Hid.mk (heap_alloc_new w (.cells #[.int .i64 10, .int .i64 K, .int .i64 p, .int .i64 a, .int .i64 b, .int .i64 c, .int .i64 d, .bool wt] 77))
  have HC := Hid.mk (fun (W : World) (hW : Below w.heap.size w W) => told_any (h.below hW) hB hN hkb hdb hs 10 K p a b c d (Or.inr (Or.inl rfl)) wt ha)
  have HKB := Hid.mk hkb
  have HDB := Hid.mk hdb
  have hz : ((ks.length : Int) == 0) = false := by simp; intro e; subst e; simp at hk0
  have hi' : (i : Int) < (ks.length : Int) := by omega
  have hid : (i : Int) < (ds.length : Int) := by omega
  have hi0 : ¬ ((i : Int) < 0) := by omega
  clear h hw hpk hkb hdb hs ha hK hdl hsl
  unfold kptr dkPtr at *
  go_enter Tryz.func38, Tryz.ntmps38
  go_wp2_with fail
  go_quiet ((go_at_call 64; exact Calls.quiet_of_same (HPK.out _)))
  go_wp2_with fail
  go_region_held3 (fun u => u.cell? ⟨w.heap.size, 0, none⟩ = some (.int .i64 10) ∧ u.cell? ⟨w.heap.size, 1, none⟩ = some (.int .i64 K) ∧ u.cell? ⟨w.heap.size, 2, none⟩ = some (.int .i64 p) ∧ u.cell? ⟨w.heap.size, 3, none⟩ = some (.int .i64 a) ∧ u.cell? ⟨w.heap.size, 4, none⟩ = some (.int .i64 b) ∧ u.cell? ⟨w.heap.size, 5, none⟩ = some (.int .i64 c) ∧ u.cell? ⟨w.heap.size, 6, none⟩ = some (.int .i64 d) ∧ u.cell? ⟨w.heap.size, 7, none⟩ = some (.bool wt) ∧ u.cell? ⟨wb, 0, none⟩ = some (.slice (some ⟨gx, 0, none⟩) ks.length xc) ∧ u.cell? ⟨wb, 1, none⟩ = some (.slice (some ⟨gy, 0, none⟩) ds.length yc) ∧ u.cell? ⟨gx, i, none⟩ = some (.pointer (some ⟨kb, 0, none⟩)) ∧ u.cell? ⟨gy, i, none⟩ = some (.pointer (some ⟨db, 0, none⟩))) (simp [go_sem, World.cell?_alloc_past, *])
    (first
      | (go_at_call 65; refine (HC.out _ ?_).mono ?_; exact (Below.drewN ((Below.refl _ _).alloc (Nat.le_refl _) _) _).drew; rintro r w1 ⟨rfl, ss1, own1, hp1, hu1⟩; have hbx := (hu1.block w.heap.size (by simp) HLT.out).trans HNX.out; have x0 : w1.cell? ⟨w.heap.size, 0, none⟩ = some (.int .i64 10) := (by simp only [World.cell?, hbx]; rfl); have x1 : w1.cell? ⟨w.heap.size, 1, none⟩ = some (.int .i64 K) := (by simp only [World.cell?, hbx]; rfl); have x2 : w1.cell? ⟨w.heap.size, 2, none⟩ = some (.int .i64 p) := (by simp only [World.cell?, hbx]; rfl); have x3 : w1.cell? ⟨w.heap.size, 3, none⟩ = some (.int .i64 a) := (by simp only [World.cell?, hbx]; rfl); have x4 : w1.cell? ⟨w.heap.size, 4, none⟩ = some (.int .i64 b) := (by simp only [World.cell?, hbx]; rfl); have x5 : w1.cell? ⟨w.heap.size, 5, none⟩ = some (.int .i64 c) := (by simp only [World.cell?, hbx]; rfl); have x6 : w1.cell? ⟨w.heap.size, 6, none⟩ = some (.int .i64 d) := (by simp only [World.cell?, hbx]; rfl); have x7 : w1.cell? ⟨w.heap.size, 7, none⟩ = some (.bool wt) := (by simp only [World.cell?, hbx]; rfl); obtain ⟨r0, r1, r2, r3, _, _, _⟩ := hp1.rows HKB.out HDB.out; have HS : Hid (Stp w w1 wb own (N + 202) (M + 7)) := StS.below ⟨ss1, own1, hp1, hu1⟩ (Below.drewN ((Below.refl _ _).alloc (Nat.le_refl _) _) _).drew (Nat.le_refl _); clear hp1 hu1 hbx))
  go_wp2
  go_ret
  exact ⟨rfl, HS.out⟩
set_option maxHeartbeats 8000000 in
set_option maxRecDepth 100000 in
theorem step_told11 (h : PI w wb own N M xv yv ks ds ss ss) (hB : N + 300 ≤ 1000000000) (hN : M + 8 ≤ 10000000) (K p a b c d : Int) (wt : Bool) (hK : i64 K) (ha : i64 a) (hk0 : 0 < ks.length) :
    Calls Tryz.prog 38 #[.pointer (some ⟨wb, 0, none⟩), .agg #[.int .i64 11, .int .i64 K, .int .i64 p, .int .i64 a, .int .i64 b, .int .i64 c, .int .i64 d, .bool wt]] w fun r w' => r = .returned (.bool true) ∧ Stp w w' wb own (N + 202) (M + 7) := by
  obtain ⟨iv, dv, rv, fv, n, ei, ed, er, ef, hw⟩ := h.b
  have hll : ks.length ≤ 3 := by rw [h.lk]; exact h.le.2
  have hdl : ds.length = ks.length := by rw [h.ld, h.lk]
  have hsl : ss.length = ks.length := h.lk.symm
  obtain ⟨i, hi, hpk⟩ := pick_at K hK ks.length ⟨hk0, hll⟩
  have HPK := Hid.mk hpk
  obtain ⟨kb, hkb⟩ : ∃ kb, ks[i]? = some kb := ⟨_, List.getElem?_eq_getElem hi⟩
  obtain ⟨db, hdb⟩ : ∃ db, ds[i]? = some db := ⟨_, List.getElem?_eq_getElem (by omega)⟩
  obtain ⟨s, hs⟩ : ∃ s, ss[i]? = some s := ⟨_, List.getElem?_eq_getElem (by omega)⟩
  obtain ⟨xa, xc, rfl⟩ := own_form hw.x
  obtain ⟨ya, yc, rfl⟩ := own_form hw.y
  obtain ⟨gx, rfl, -⟩ := own_some hw.x (by omega)
  obtain ⟨gy, rfl, -⟩ := own_some hw.y (by omega)
  obtain ⟨c0, c1, cx, cy, hgx, hgy, hwb⟩ := h.rows hkb hdb
  have HLT : Hid (¬ owned own w.heap.size) := fun ho => by obtain ⟨j, hj⟩ := ho; exact absurd (h.o.lt j _ hj) (Nat.lt_irrefl _)
  have HNX := Hid.mk (heap_alloc_new w (.cells #[.int .i64 11, .int .i64 K, .int .i64 p, .int .i64 a, .int .i64 b, .int .i64 c, .int .i64 d, .bool wt] 77))
  have HC := Hid.mk (fun (W : World) (hW : Below w.heap.size w W) => told_any (h.below hW) hB hN hkb hdb hs 11 K p a b c d (Or.inr (Or.inr rfl)) wt ha)
  have HKB := Hid.mk hkb
  have HDB := Hid.mk hdb
  have hz : ((ks.length : Int) == 0) = false := by simp; intro e; subst e; simp at hk0
  have hi' : (i : Int) < (ks.length : Int) := by omega
  have hid : (i : Int) < (ds.length : Int) := by omega
  have hi0 : ¬ ((i : Int) < 0) := by omega
  clear h hw hpk hkb hdb hs ha hK hdl hsl
  unfold kptr dkPtr at *
  go_enter Tryz.func38, Tryz.ntmps38
  go_wp2_with fail
  go_quiet ((go_at_call 64; exact Calls.quiet_of_same (HPK.out _)))
  go_wp2_with fail
  go_region_held3 (fun u => u.cell? ⟨w.heap.size, 0, none⟩ = some (.int .i64 11) ∧ u.cell? ⟨w.heap.size, 1, none⟩ = some (.int .i64 K) ∧ u.cell? ⟨w.heap.size, 2, none⟩ = some (.int .i64 p) ∧ u.cell? ⟨w.heap.size, 3, none⟩ = some (.int .i64 a) ∧ u.cell? ⟨w.heap.size, 4, none⟩ = some (.int .i64 b) ∧ u.cell? ⟨w.heap.size, 5, none⟩ = some (.int .i64 c) ∧ u.cell? ⟨w.heap.size, 6, none⟩ = some (.int .i64 d) ∧ u.cell? ⟨w.heap.size, 7, none⟩ = some (.bool wt) ∧ u.cell? ⟨wb, 0, none⟩ = some (.slice (some ⟨gx, 0, none⟩) ks.length xc) ∧ u.cell? ⟨wb, 1, none⟩ = some (.slice (some ⟨gy, 0, none⟩) ds.length yc) ∧ u.cell? ⟨gx, i, none⟩ = some (.pointer (some ⟨kb, 0, none⟩)) ∧ u.cell? ⟨gy, i, none⟩ = some (.pointer (some ⟨db, 0, none⟩))) (simp [go_sem, World.cell?_alloc_past, *])
    (first
      | (go_at_call 65; refine (HC.out _ ?_).mono ?_; exact (Below.drewN ((Below.refl _ _).alloc (Nat.le_refl _) _) _).drew; rintro r w1 ⟨rfl, ss1, own1, hp1, hu1⟩; have hbx := (hu1.block w.heap.size (by simp) HLT.out).trans HNX.out; have x0 : w1.cell? ⟨w.heap.size, 0, none⟩ = some (.int .i64 11) := (by simp only [World.cell?, hbx]; rfl); have x1 : w1.cell? ⟨w.heap.size, 1, none⟩ = some (.int .i64 K) := (by simp only [World.cell?, hbx]; rfl); have x2 : w1.cell? ⟨w.heap.size, 2, none⟩ = some (.int .i64 p) := (by simp only [World.cell?, hbx]; rfl); have x3 : w1.cell? ⟨w.heap.size, 3, none⟩ = some (.int .i64 a) := (by simp only [World.cell?, hbx]; rfl); have x4 : w1.cell? ⟨w.heap.size, 4, none⟩ = some (.int .i64 b) := (by simp only [World.cell?, hbx]; rfl); have x5 : w1.cell? ⟨w.heap.size, 5, none⟩ = some (.int .i64 c) := (by simp only [World.cell?, hbx]; rfl); have x6 : w1.cell? ⟨w.heap.size, 6, none⟩ = some (.int .i64 d) := (by simp only [World.cell?, hbx]; rfl); have x7 : w1.cell? ⟨w.heap.size, 7, none⟩ = some (.bool wt) := (by simp only [World.cell?, hbx]; rfl); obtain ⟨r0, r1, r2, r3, _, _, _⟩ := hp1.rows HKB.out HDB.out; have HS : Hid (Stp w w1 wb own (N + 202) (M + 7)) := StS.below ⟨ss1, own1, hp1, hu1⟩ (Below.drewN ((Below.refl _ _).alloc (Nat.le_refl _) _) _).drew (Nat.le_refl _); clear hp1 hu1 hbx))
  go_wp2
  go_ret
  exact ⟨rfl, HS.out⟩
/-- Any step. -/
theorem step_any (h : PI w wb own N M xv yv ks ds ss ss) (hB : N + 300 ≤ 1000000000) (hN : M + 8 ≤ 10000000) (kind K p a b c d : Int) (wt : Bool) (hK : i64 K) (hp : i64 p) (ha : i64 a) (hb : i64 b) (hc : i64 c) (he : i64 d) :
    Calls Tryz.prog 38 #[.pointer (some ⟨wb, 0, none⟩), .agg #[.int .i64 kind, .int .i64 K, .int .i64 p, .int .i64 a, .int .i64 b, .int .i64 c, .int .i64 d, .bool wt]] w fun r w' => r = .returned (.bool true) ∧ Stp w w' wb own (N + 202) (M + 7) := by
  by_cases h13 : kind = 13
  · subst h13; exact step_made h K p a b c d wt
  by_cases h1 : kind < 1
  · exact step_none h kind K p a b c d wt h13 (Or.inl h1)
  by_cases h12 : 12 < kind
  · exact step_none h kind K p a b c d wt h13 (Or.inr (Or.inl h12))
  by_cases h0 : ks.length = 0
  · exact step_none h kind K p a b c d wt h13 (Or.inr (Or.inr h0))
  by_cases h8 : kind = 8
  · subst h8; exact step_told8 h hB hN K p a b c d wt hK ha (by omega)
  by_cases h10 : kind = 10
  · subst h10; exact step_told10 h hB hN K p a b c d wt hK ha (by omega)
  by_cases h11 : kind = 11
  · subst h11; exact step_told11 h hB hN K p a b c d wt hK ha (by omega)
  exact step_call h hB hN kind K p a b c d wt hK hp ha hb hc he h1 h12 (by omega) ⟨h8, h10, h11⟩
end
end Go.Proofs.YtaicdjhblbobbaaGreat

/- The statements' world while a script is played. -/
namespace Go.Proofs.YtaicdjhblbobbaaGreat
open Go.RowKit Go.Lib

/-- Some Kernels and Desks in equal states; nothing turned of what lay in memory ahead of it. -/
def Pl (w0 w : World) (wb N M : Nat) : Prop := ∃ xv yv ks ds ss own, PI w wb own N M xv yv ks ds ss ss ∧ UB w0.heap.size (fun _ => False) (owned own) w0 w
section
variable {w0 w w' : World} {wb N M : Nat}
theorem Pl.below0 (h : Pl w0 w wb N M) : Below w0.heap.size w0 w := by
  obtain ⟨xv, yv, ks, ds, ss, own, h1, h2⟩ := h
  exact ⟨h2.os, h2.tape, h2.output, h2.size, fun k hk => h2.block k hk fun h => h⟩
theorem Pl.stp {own : Nat → Nat → Prop} {N' M' : Nat} (hu : UB w0.heap.size (fun _ => False) (owned own) w0 w) (hs : Stp w w' wb own N' M') : Pl w0 w' wb N' M' := by
  obtain ⟨xv', yv', ks', ds', ss', own', h1, h2⟩ := hs
  have hz := hu.size
  exact ⟨xv', yv', ks', ds', ss', own', h1, hu.trans ⟨h2.os, h2.tape, h2.output, h2.size, fun k hk hn => h2.block k (by omega) hn, fun k hk hp => h2.old k (by omega) hp⟩⟩
theorem Pl.quiet (h : Pl w0 w wb N M) (hb : Below w.heap.size w w') : Pl w0 w' wb N M := by
  obtain ⟨xv, yv, ks, ds, ss, own, h1, h2⟩ := h
  exact ⟨xv, yv, ks, ds, ss, own, h1.below hb, h2.trans (UB.of_below hb h2.size)⟩
theorem Pl.step (h : Pl w0 w wb N M) (hB : N + 300 ≤ 1000000000) (hN : M + 8 ≤ 10000000) (kind K p a b c d : Int) (wt : Bool) (hK : i64 K) (hp : i64 p) (ha : i64 a) (hb : i64 b) (hc : i64 c) (he : i64 d) :
    Calls Tryz.prog 38 #[.pointer (some ⟨wb, 0, none⟩), .agg #[.int .i64 kind, .int .i64 K, .int .i64 p, .int .i64 a, .int .i64 b, .int .i64 c, .int .i64 d, .bool wt]] w fun r w' => r = .returned (.bool true) ∧ Pl w0 w' wb (N + 202) (M + 7) := by
  obtain ⟨xv, yv, ks, ds, ss, own, h1, h2⟩ := h
  refine (step_any h1 hB hN kind K p a b c d wt hK hp ha hb hc he).mono ?_
  rintro r w' ⟨hr, hs⟩
  exact ⟨hr, Pl.stp h2 hs⟩
theorem Pl.made (h : Pl w0 w wb N M) :
    Calls Tryz.prog 37 #[.pointer (some ⟨wb, 0, none⟩)] w fun r w' => r = .returned (.bool true) ∧ Pl w0 w' wb (N + 202) (M + 7) := by
  obtain ⟨xv, yv, ks, ds, ss, own, h1, h2⟩ := h
  refine (made_any h1).mono ?_
  rintro r w' ⟨hr, hs⟩
  exact ⟨hr, Pl.stp h2 hs⟩
theorem Pl.looks (h : Pl w0 w wb N M) (hB : N ≤ 1000000000) :
    Calls Tryz.prog 39 #[.pointer (some ⟨wb, 2, none⟩)] w fun r w' => r = .returned (.bool true) ∧ Pl w0 w' wb N M := by
  have h' := h
  obtain ⟨xv, yv, ks, ds, ss, own, h1, h2⟩ := h
  obtain ⟨iv, dv, rv, fv, n, ei, ed, er, ef, hw⟩ := h1.b
  refine (bLooks hw hB).mono ?_
  rintro r w' ⟨hr, hs⟩
  exact ⟨hr, h'.quiet hs⟩
/-- The world that is new. -/
theorem Pl.new (w : World) : Pl w (w.alloc (.cells #[.slice none 0 0, .slice none 0 0, .int .i64 0, .slice none 0 0, .slice none 0 0, .slice none 0 0, .slice none 0 0] 73)) w.heap.size 0 0 := by
  refine ⟨.slice none 0 0, .slice none 0 0, [], [], [], fun i b => i = 0 ∧ b = w.heap.size, ⟨⟨fun i b h => ?_, fun i j b h k => ?_⟩, ⟨.slice none 0 0, .slice none 0 0, .slice none 0 0, .slice none 0 0, 0, [], [], [], [], ?_⟩, rfl, rfl, ⟨rfl, by simp⟩, fun i kb s h => ?_, fun i db s h => ?_⟩, ?_⟩
  · obtain ⟨_, rfl⟩ := h; simp
  · rw [h.1, k.1]
  · exact ⟨heap_alloc_new w _, World.ownsRow_nil _ _ _ _, World.ownsRow_nil _ _ _ _, BkRow.nil _ _ _ _ _, BkRow.nil _ _ _ _ _, BkRow.nil _ _ _ _ _, BkRow.nil _ _ _ _ _, ⟨rfl, rfl⟩, fun b e => (by cases e), fun b e => (by cases e), ⟨Int.le_refl _, Int.le_refl _⟩, Nat.le_refl _, Nat.le_refl _, Nat.le_refl _, Nat.le_refl _⟩
  · simp at h
  · simp at h
  · have hb := (Below.refl w.heap.size w).alloc (Nat.le_refl _) (.cells #[.slice none 0 0, .slice none 0 0, .int .i64 0, .slice none 0 0, .slice none 0 0, .slice none 0 0, .slice none 0 0] 73)
    refine ⟨hb.os, hb.tape, hb.output, hb.size, fun k hk _ => hb.block k hk, fun k hk hp => ?_⟩
    obtain ⟨_, _, e⟩ := hp
    omega
end
end Go.Proofs.YtaicdjhblbobbaaGreat

/- plays. -/
namespace Go.Proofs.YtaicdjhblbobbaaGreat
open Go.RowKit Go.Lib

structure OpL where
  kind : Int
  K : Int
  p : Int
  a : Int
  b : Int
  c : Int
  d : Int
  wt : Bool
structure OpL.Ok (x : OpL) : Prop where
  K : i64 x.K
  p : i64 x.p
  a : i64 x.a
  b : i64 x.b
  c : i64 x.c
  d : i64 x.d
/-- A script in memory. -/
structure Scr (w : World) (av : Option Addr) (l : List OpL) : Prop where
  ok : ∀ x, x ∈ l → x.Ok
  at_ : ∀ (j : Nat) x, l[j]? = some x → ∃ g o, av = some ⟨g, o, none⟩ ∧ g < w.heap.size ∧ w.cell? ⟨g, o + j * 8, none⟩ = some (.int .i64 x.kind) ∧ w.cell? ⟨g, o + j * 8 + 1, none⟩ = some (.int .i64 x.K) ∧ w.cell? ⟨g, o + j * 8 + 2, none⟩ = some (.int .i64 x.p) ∧ w.cell? ⟨g, o + j * 8 + 3, none⟩ = some (.int .i64 x.a) ∧ w.cell? ⟨g, o + j * 8 + 4, none⟩ = some (.int .i64 x.b) ∧ w.cell? ⟨g, o + j * 8 + 5, none⟩ = some (.int .i64 x.c) ∧ w.cell? ⟨g, o + j * 8 + 6, none⟩ = some (.int .i64 x.d) ∧ w.cell? ⟨g, o + j * 8 + 7, none⟩ = some (.bool x.wt)
theorem Pl.more {w0 w : World} {wb N M N' M' : Nat} (h : Pl w0 w wb N M) (hn : N ≤ N') (hm : M ≤ M') : Pl w0 w wb N' M' := by
  obtain ⟨xv, yv, ks, ds, ss, own, h1, h2⟩ := h
  exact ⟨xv, yv, ks, ds, ss, own, (h1.more hn).moreD hm, h2⟩
theorem Pl.many {w0 w : World} {wb N M : Nat} (h : Pl w0 w wb N M) : ∃ xa kn xc, kn ≤ 3 ∧ w.cell? ⟨wb, 0, none⟩ = some (.slice xa kn xc) ∧ wb < w.heap.size := by
  obtain ⟨xv, yv, ks, ds, ss, own, h1, h2⟩ := h
  obtain ⟨iv, dv, rv, fv, n, ei, ed, er, ef, hw⟩ := h1.b
  obtain ⟨xa, xc, rfl⟩ := own_form hw.x
  exact ⟨xa, ks.length, xc, by rw [h1.lk]; exact h1.le.2, hw.cell 0, hw.lt⟩
theorem i64_small (m : Nat) (h : m ≤ 3) : i64 (m : Int) := ⟨by omega, by omega⟩
set_option maxHeartbeats 8000000 in
set_option maxRecDepth 100000 in
theorem plays_any {w : World} {av : Option Addr} {cap : Nat} {l : List OpL} {hi : Int} (hs : Scr w av l) (hl : l.length ≤ 116600) :
    Calls Tryz.prog 15 #[.slice av l.length cap, .int .i64 hi] w fun r w' => r = .returned (.bool true) ∧ Below w.heap.size w w' := by
  have HS := Hid.mk hs
  have HN := Hid.mk (Pl.new w)
  have HMD := Hid.mk (fun (W : World) N M (h : Pl w W w.heap.size N M) => h.made)
  have HST := Hid.mk (fun (W : World) N M (h : Pl w W w.heap.size N M) hB hN => h.step hB hN)
  have z0 : i64 0 := ⟨by decide, by decide⟩
  have z1 : i64 1 := ⟨by decide, by decide⟩
  have z2 : i64 2 := ⟨by decide, by decide⟩
  have z5 : i64 5 := ⟨by decide, by decide⟩
  have z10 : i64 10 := ⟨by decide, by decide⟩
  have HZ := Hid.mk (And.intro z0 (And.intro z1 (And.intro z2 (And.intro z5 z10))))
  clear hs z0 z1 z2 z5 z10
  go_enter Tryz.func15, Tryz.ntmps15
  go_wp2_with (first
    | (go_at_call 37; refine (HMD.out _ 0 0 HN.out).mono ?_; rintro r w1 ⟨rfl, hp1⟩; have HP1 := Hid.mk hp1; clear hp1)
    | (go_at_call 38; refine (HST.out w1 _ _ HP1.out (by decide) (by decide) 3 0 0 1 0 0 0 false HZ.out.1 HZ.out.1 HZ.out.2.1 HZ.out.1 HZ.out.1 HZ.out.1).mono ?_; rintro r w2 ⟨rfl, hp2⟩; have HP2 := Hid.mk hp2; clear hp2 HP1)
    | (go_at_call 38; refine (HST.out w2 _ _ HP2.out (by decide) (by decide) 6 0 0 0 2 5 10 false HZ.out.1 HZ.out.1 HZ.out.1 HZ.out.2.2.1 HZ.out.2.2.2.1 HZ.out.2.2.2.2).mono ?_; rintro r w3 ⟨rfl, hp3⟩; have HP3 := Hid.mk hp3; clear hp3 HP2))
  go_loopw [8, 9] (fun s8 s9 wr => ∃ j : Nat, s8 = .bool true ∧ s9 = .int .i64 j ∧ j ≤ l.length ∧ Hid (Pl w wr w.heap.size (606 + 202 * j) (21 + 7 * j))) (fun _ s9 _ => l.length - (intOf s9).toNat)
  case atStart => exact ⟨0, rfl, rfl, Nat.zero_le _, HP3.out⟩
  case round =>
    obtain ⟨j, rfl, rfl, hj, HP⟩ := hrel
    have hb0 := HP.out.below0
    have hz0 := hb0.size
    by_cases hjl : j < l.length
    · have hjl' : (j : Int) < (l.length : Int) := by omega
      obtain ⟨x, hx⟩ : ∃ x, l[j]? = some x := ⟨_, List.getElem?_eq_getElem hjl⟩
      have HOK := Hid.mk (HS.out.ok x (List.mem_of_getElem? hx))
      obtain ⟨g, o, rfl, hg, q0, q1, q2, q3, q4, q5, q6, q7⟩ := HS.out.at_ j x hx
      have hg2 : g < wr.heap.size := by omega
      have hblk := hb0.block g hg
      have ce : ∀ k, wr.cell? ⟨g, k, none⟩ = w.cell? ⟨g, k, none⟩ := fun k => World.cell?_of_block (a := ⟨g, k, none⟩) hblk
      rw [← ce] at q0 q1 q2 q3 q4 q5 q6 q7
      clear hx hblk ce hb0
      have HJ := Hid.mk hjl
      have HBJ : Hid (606 + 202 * j + 300 ≤ 1000000000 ∧ 21 + 7 * j + 8 ≤ 10000000) := ⟨by omega, by omega⟩
      have HQ := Hid.mk (fun c => HP.out.quiet ((Below.refl wr.heap.size wr).alloc (Nat.le_refl _) c))
      by_cases hk : hi < x.kind
      · go_wp2_with fail
        go_roundw
        case rel => exact ⟨j + 1, rfl, by go_num, by have := HJ.out; omega, (HQ.out _).more (by omega) (by omega)⟩
        case measure => simp [intOf]; have := HJ.out; omega
      · by_cases h12 : hi < 12
        · go_wp2_with (first
            | (go_at_call 38; refine (HST.out _ _ _ (HQ.out _) HBJ.out.1 HBJ.out.2 x.kind x.K x.p x.a x.b x.c x.d false HOK.out.K HOK.out.p HOK.out.a HOK.out.b HOK.out.c HOK.out.d).mono ?_; rintro r w4 ⟨rfl, hp4⟩; have HP4 := Hid.mk hp4; clear hp4)
            | (go_at_call 39; refine (HP4.out.looks (by have := HBJ.out.1; omega)).mono ?_; rintro r w5 ⟨rfl, hp5⟩; have HP5 := Hid.mk hp5; clear hp5))
          go_roundw
          case rel => exact ⟨j + 1, rfl, by go_num, by have := HJ.out; omega, HP5.out.more (by omega) (by omega)⟩
          case measure => simp [intOf]; have := HJ.out; omega
        · go_wp2_with (first
            | (go_at_call 38; refine (HST.out _ _ _ (HQ.out _) HBJ.out.1 HBJ.out.2 x.kind x.K x.p x.a x.b x.c x.d x.wt HOK.out.K HOK.out.p HOK.out.a HOK.out.b HOK.out.c HOK.out.d).mono ?_; rintro r w4 ⟨rfl, hp4⟩; have HP4 := Hid.mk hp4; clear hp4)
            | (go_at_call 39; refine (HP4.out.looks (by have := HBJ.out.1; omega)).mono ?_; rintro r w5 ⟨rfl, hp5⟩; have HP5 := Hid.mk hp5; clear hp5))
          go_roundw
          case rel => exact ⟨j + 1, rfl, by go_num, by have := HJ.out; omega, HP5.out.more (by omega) (by omega)⟩
          case measure => simp [intOf]; have := HJ.out; omega
    · have hno : ¬ ((j : Int) < (l.length : Int)) := by omega
      have HPE : Hid (Pl w wr w.heap.size 30000000 900000) := HP.out.more (by omega) (by omega)
      clear HP hb0 hz0 hjl
      go_wp2_with fail
      obtain ⟨w6, hw6⟩ : ∃ w6, w6 = wr := ⟨_, rfl⟩
      subst hw6
      go_loopw [8, 12] (fun s8 s12 wr => ∃ m : Nat, s8 = .bool true ∧ s12 = .int .i64 m ∧ m ≤ 3 ∧ Hid (Pl w wr w.heap.size (30000000 + 2000 * m) (900000 + 100 * m))) (fun _ s12 _ => 3 - (intOf s12).toNat)
      case atStart => exact ⟨0, rfl, rfl, by omega, HPE.out⟩
      case round =>
        obtain ⟨m, rfl, rfl, hm, HP⟩ := hrel
        obtain ⟨xa, kn, xc, hkn, cx, hwl⟩ := HP.out.many
        by_cases hmk : m < kn
        · have hmk' : (m : Int) < (kn : Int) := by omega
          have HM3 : Hid (m < 3) := by show _ < _; omega
          go_wp2_with fail
          obtain ⟨w7, hw7⟩ : ∃ w7, w7 = wr := ⟨_, rfl⟩
          subst hw7
          clear cx hmk hmk' hkn
          go_loopw [8, 13] (fun s8 s13 wr => ∃ q : Nat, s8 = .bool true ∧ s13 = .int .i64 q ∧ q ≤ 3 ∧ Hid (Pl w wr w.heap.size (30000000 + 2000 * m + 404 * q) (900000 + 100 * m + 14 * q))) (fun _ s13 _ => 3 - (intOf s13).toNat)
          case atStart => exact ⟨0, rfl, rfl, by omega, HP.out⟩
          case round =>
            clear HP
            obtain ⟨q, rfl, rfl, hq, HP⟩ := hrel
            by_cases hq3 : q < 3
            · have hq3' : (q : Int) < 3 := by omega
              have HQ3 := Hid.mk hq3
              by_cases h10 : hi < 10
              · go_wp2_with (go_at_call 38; refine (HST.out _ _ _ HP.out (by have := HM3.out; omega) (by have := HM3.out; omega) 8 m 0 q 0 0 0 false (i64_small m hm) HZ.out.1 (i64_small q hq) HZ.out.1 HZ.out.1 HZ.out.1).mono ?_; rintro r w8 ⟨rfl, hp8⟩; have HP8 := Hid.mk hp8; clear hp8)
                go_roundw
                case rel => exact ⟨q + 1, rfl, by go_num, by have := HQ3.out; omega, HP8.out.more (by omega) (by omega)⟩
                case measure => simp [intOf]; have := HQ3.out; omega
              · go_wp2_with (first
                  | (go_at_call_of 38 (Value.agg #[.int .i64 8, .int .i64 m, .int .i64 0, .int .i64 q, .int .i64 0, .int .i64 0, .int .i64 0, .bool false]); refine (HST.out _ _ _ HP.out (by have := HM3.out; omega) (by have := HM3.out; omega) 8 m 0 q 0 0 0 false (i64_small m hm) HZ.out.1 (i64_small q hq) HZ.out.1 HZ.out.1 HZ.out.1).mono ?_; rintro r w8 ⟨rfl, hp8⟩; have HP8 := Hid.mk hp8; clear hp8)
                  | (go_at_call 38; refine (HST.out _ _ _ HP8.out (by have := HM3.out; omega) (by have := HM3.out; omega) 10 m 0 q 0 0 0 false (i64_small m hm) HZ.out.1 (i64_small q hq) HZ.out.1 HZ.out.1 HZ.out.1).mono ?_; rintro r w9 ⟨rfl, hp9⟩; have HP9 := Hid.mk hp9; clear hp9))
                go_roundw
                case rel => exact ⟨q + 1, rfl, by go_num, by have := HQ3.out; omega, HP9.out.more (by omega) (by omega)⟩
                case measure => simp [intOf]; have := HQ3.out; omega
            · have hq3' : ¬ ((q : Int) < 3) := by omega
              have HQ3 : Hid (q = 3) := by show _ = _; omega
              by_cases h11 : 11 ≤ hi
              · go_wp2_with (go_at_call 38; refine (HST.out _ _ _ HP.out (by have := HM3.out; omega) (by have := HM3.out; omega) 11 m 0 0 0 0 0 false (i64_small m hm) HZ.out.1 HZ.out.1 HZ.out.1 HZ.out.1 HZ.out.1).mono ?_; rintro r w8 ⟨rfl, hp8⟩; have HP8 := Hid.mk hp8; clear hp8)
                go_roundw
                case rel => exact ⟨m + 1, rfl, by go_num, by have := HM3.out; omega, HP8.out.more (by have := HQ3.out; omega) (by have := HQ3.out; omega)⟩
                case measure => simp [intOf]; have := HM3.out; omega
              · go_wp2_with fail
                go_roundw
                case rel => exact ⟨m + 1, rfl, by go_num, by have := HM3.out; omega, HP.out.more (by have := HQ3.out; omega) (by have := HQ3.out; omega)⟩
                case measure => simp [intOf]; have := HM3.out; omega
        · have hmk' : ¬ ((m : Int) < (kn : Int)) := by omega
          go_wp2_with fail
          go_ret
          exact ⟨rfl, HP.out.below0⟩
end Go.Proofs.YtaicdjhblbobbaaGreat
