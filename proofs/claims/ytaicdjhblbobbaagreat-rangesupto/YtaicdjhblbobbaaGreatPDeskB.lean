/- Contract of the document's answer: a lock is asked for. -/
import Derived.Test.YtaicdjhblbobbaaGreatPDeskJ
import Derived.Deep.RegionHeld3
import Derived.Test.YtaicdjhblbobbaaGreatPDeskA
namespace Go.Proofs.YtaicdjhblbobbaaGreat
open Go.RowKit Go.Lib

/-- What a call that tells who waits no more leaves. -/
def DoneD (w w' : World) (db : Nat) (P : Nat → Prop) (r : Ending) (s' : DS) (e : Int) (l : List Dn) (M : Int) : Prop := ∃ o, r = .returned (.tuple #[o, .int .i64 e]) ∧ w'.ownsRow w.heap.size 57 2 o l.length (flatD l) ∧ (∃ d' ov' qv', DV w' db P d' ov' qv' ∧ Sim s' d' ∧ d'.n ≤ M) ∧ Upd P P w w'
section
variable {w : World} {db : Nat} {P : Nat → Prop} {d : DK} {ov qv : Value} {s : DS} (h : DV w db P d ov qv) (hsim : Sim s d) (hbas : s.Bas) (hN : s.N ≤ 10000000) (hM : d.n + 7 ≤ 100000000) (a : Ask) (ha : s.AskOk a) (wait : Bool)
include h hsim hbas hN hM ha
set_option maxHeartbeats 8000000 in
set_option maxRecDepth 100000 in
theorem dAsk_busy (h1 : ¬ (a.k = 0)) (h2 : ¬ (s.way a s.Q = [])) (h3 : wait = false) :
    Calls Tryz.prog 144 #[dkPtr db, dAskV a, .bool wait] w fun r w' => r = .returned (.tuple #[.slice none 0 0, .int .i64 8]) ∧ Below w.heap.size w w' := by
  have hsm := hsim.sm hbas hN (by omega)
  have HSM := Hid.mk hsm
  have HV := Hid.mk h
  have hdb := h.k.lt
  have HWY := Hid.mk (fun (W : World) (hW : Below w.heap.size w W) => dWay_any (h.below hW) hsm a ha.file ha.rg (n0 := d.Q.length) (Nat.le_refl _))
  have HSIM := Hid.mk hsim
  have HBAS := Hid.mk hbas
  have HAOK := Hid.mk ha
  have HNN := Hid.mk hN
  have HMM := Hid.mk hM
  have HWN : Hid (d.way a d.Q = [] ↔ s.way a s.Q = []) := by have := hsim.way_nil hbas ha s.Q; rw [← hsim.Q] at this ⊢; exact this
  rw [List.take_of_length_le (Nat.le_refl _)] at HWY
  have hq7 := hsm.q
  obtain ⟨qa, qc, rfl⟩ := own_form h.q
  have cq := h.k.cQ
  have hle : (d.way a d.Q).length ≤ 10000020 := by
    have h1 := wayQ_len a d.Q
    have h4 := hsm.o
    cases hw : a.whole with
    | false => rw [d.way_range _ hw, List.length_append]; have := d.wayH_len a 6; omega
    | true => rw [d.way_whole _ hw, List.length_append]; have := d.wayW_len a d.O.length; omega
  clear hsm h hsim hbas hN hM ha
  unfold dkPtr dAskV at *
  generalize d.way a d.Q = L at *
  have hL0 : ¬ (L.length = 0) := fun e => h2 (HWN.out.1 (List.eq_nil_of_length_eq_zero e))
  have hL : ((L.length : Int) == 0) = false := by simpa using hL0
  have hk' : (a.k == 0) = false := by simpa using h1
  subst h3
  go_enter Tryz.func144, Tryz.ntmps144
  go_wp2_with fail
  go_region_held3 (fun u => u.cell? ⟨w.heap.size, 0, none⟩ = some (.int .i64 a.p) ∧ u.cell? ⟨w.heap.size, 1, none⟩ = some (.int .i64 a.k) ∧ u.cell? ⟨w.heap.size, 2, none⟩ = some (.int .i64 a.file) ∧ u.cell? ⟨w.heap.size, 3, none⟩ = some (.bool a.whole) ∧ u.cell? ⟨w.heap.size, 4, none⟩ = some (.int .i64 a.o) ∧ u.cell? ⟨w.heap.size, 5, none⟩ = some (.int .i64 a.f) ∧ u.cell? ⟨w.heap.size, 6, none⟩ = some (.int .i64 a.t) ∧ u.cell? ⟨db, 1189, none⟩ = some (.slice qa d.Q.length qc)) (simp [go_sem, World.cell?_alloc_past, *])
    (first
      | (go_at_call 169; refine (HWY.out _ ?_).mono ?_; exact ((Below.refl _ _).alloc (Nat.le_refl _) _).drew; rintro r w1 ⟨v1, us, rfl, hw1, hb1⟩; obtain ⟨ua, uc, rfl⟩ := own_form hw1.own; have hz1 := hb1.size; simp at hz1; have hb0 : Below w.heap.size w w1 := (((Below.refl _ _).alloc (Nat.le_refl _) _).drew).trans (hb1.mono (by simp)); have hbx := (hb1.block w.heap.size (by simp)).trans (heap_alloc_new w a.boxD); obtain ⟨y0, y1, y2, y3, y4, y5, y6⟩ := BoxA.of hbx; have cq1 := (HV.out.below hb0).k.cQ; have HB1 := Hid.mk hb0; have HX1 := Hid.mk hbx; clear hb1 hb0 hbx hw1))
  go_wp2
  go_ret2
  exact ⟨rfl, HB1.out⟩
set_option maxHeartbeats 16000000 in
set_option maxRecDepth 100000 in
theorem dAsk_err (h1 : a.k = 0 ∨ s.way a s.Q = []) (h2 : (s.take a).2 ≠ 0) :
    Calls Tryz.prog 144 #[dkPtr db, dAskV a, .bool wait] w fun r w' => r = .returned (.tuple #[.slice none 0 0, .int .i64 (s.take a).2]) ∧ (∃ d' qv', DV w' db P d' ov qv' ∧ Sim s d' ∧ d'.n ≤ d.n + 1) ∧ KD db ov w w' := by
  have hsm := hsim.sm hbas hN (by omega)
  have HSM := Hid.mk hsm
  have HV := Hid.mk h
  have hdb := h.k.lt
  have HWY := Hid.mk (fun (W : World) (hW : Below w.heap.size w W) => dWay_any (h.below hW) hsm a ha.file ha.rg (n0 := d.Q.length) (Nat.le_refl _))
  have HSIM := Hid.mk hsim
  have HBAS := Hid.mk hbas
  have HAOK := Hid.mk ha
  have HNN := Hid.mk hN
  have HMM := Hid.mk hM
  have HWN : Hid (d.way a d.Q = [] ↔ s.way a s.Q = []) := by have := hsim.way_nil hbas ha s.Q; rw [← hsim.Q] at this ⊢; exact this
  rw [List.take_of_length_le (Nat.le_refl _)] at HWY
  have hq7 := hsm.q
  obtain ⟨qa, qc, rfl⟩ := own_form h.q
  have cq := h.k.cQ
  have hle : (d.way a d.Q).length ≤ 10000020 := by
    have h1 := wayQ_len a d.Q
    have h4 := hsm.o
    cases hw : a.whole with
    | false => rw [d.way_range _ hw, List.length_append]; have := d.wayH_len a 6; omega
    | true => rw [d.way_whole _ hw, List.length_append]; have := d.wayW_len a d.O.length; omega
  clear hsm h hsim hbas hN hM ha
  unfold dkPtr dAskV at *
  generalize d.way a d.Q = L at *
  have H2 := Hid.mk h2
  clear h2
  by_cases hk : a.k = 0
  · have hk' : (a.k == 0) = true := by simpa using hk
    clear h1 hk
    go_enter Tryz.func144, Tryz.ntmps144
    go_wp2_with fail
    go_region_held3 (fun u => u.cell? ⟨w.heap.size, 0, none⟩ = some (.int .i64 a.p) ∧ u.cell? ⟨w.heap.size, 1, none⟩ = some (.int .i64 a.k) ∧ u.cell? ⟨w.heap.size, 2, none⟩ = some (.int .i64 a.file) ∧ u.cell? ⟨w.heap.size, 3, none⟩ = some (.bool a.whole) ∧ u.cell? ⟨w.heap.size, 4, none⟩ = some (.int .i64 a.o) ∧ u.cell? ⟨w.heap.size, 5, none⟩ = some (.int .i64 a.f) ∧ u.cell? ⟨w.heap.size, 6, none⟩ = some (.int .i64 a.t) ∧ u.cell? ⟨db, 1189, none⟩ = some (.slice qa d.Q.length qc)) (simp [go_sem, World.cell?_alloc_past, *])
      (first
        | (go_at_call 169; refine (HWY.out _ ?_).mono ?_; exact ((Below.refl _ _).alloc (Nat.le_refl _) _).drew; rintro r w1 ⟨v1, us, rfl, hw1, hb1⟩; obtain ⟨ua, uc, rfl⟩ := own_form hw1.own; have hz1 := hb1.size; simp at hz1; have hb0 : Below w.heap.size w w1 := (((Below.refl _ _).alloc (Nat.le_refl _) _).drew).trans (hb1.mono (by simp)); have hbx := (hb1.block w.heap.size (by simp)).trans (heap_alloc_new w a.boxD); obtain ⟨y0, y1, y2, y3, y4, y5, y6⟩ := BoxA.of hbx; have cq1 := (HV.out.below hb0).k.cQ; have HB1 := Hid.mk hb0; have HX1 := Hid.mk hbx; clear hb1 hb0 hbx hw1))
    have HTA := Hid.mk (dTake_any (HV.out.below HB1.out) HSM.out a HAOK.out.file (live_mem HAOK.out.l) (fun hw => by
      obtain ⟨c, _, hf⟩ := DS.has_iff.1 (HAOK.out.wh hw).1
      rw [HSIM.out.N]; exact (HBAS.out.f _ _ _ hf).2.2.2) HAOK.out.rg)
    have HTK := Hid.mk (HSIM.out.take HBAS.out HAOK.out)
    have HTN := Hid.mk (DK.take_n d a)
    unfold dkPtr dAskV at HTA
    generalize d.take a = TT at *
    obtain ⟨te, tr⟩ := TT
    simp only at HTA HTK HTN
    have htr : tr ≠ 0 := by rw [HTK.out.2]; exact H2.out
    have htr' : (tr != 0) = true := by simpa using htr
    have HTR := Hid.mk htr
    clear htr
    go_wp2_with (go_at_call 171; refine HTA.out.mono ?_; rintro r w3 ⟨rfl, hv3, hk3⟩; have hz3 := hk3.size; have HV3 := Hid.mk hv3; have HK3 := Hid.mk hk3; clear hv3 hk3)
    go_ret2
    refine ⟨by rw [← HTK.out.2]; rfl, ?_, (KD.of_below HB1.out).trans HK3.out⟩
    refine ⟨te, _, HV3.out, ?_, HTN.out.1⟩
    have hh := HTK.out.1
    rw [DS.take_err (by rw [← HTK.out.2]; exact HTR.out)] at hh
    exact hh
  · have hL0 : L.length = 0 := by rw [HWN.out.2 (h1.resolve_left hk)]; rfl
    have hL : ((L.length : Int) == 0) = true := by simpa using hL0
    have hk' : (a.k == 0) = false := by simpa using hk
    clear h1 hk hL0
    go_enter Tryz.func144, Tryz.ntmps144
    go_wp2_with fail
    go_region_held3 (fun u => u.cell? ⟨w.heap.size, 0, none⟩ = some (.int .i64 a.p) ∧ u.cell? ⟨w.heap.size, 1, none⟩ = some (.int .i64 a.k) ∧ u.cell? ⟨w.heap.size, 2, none⟩ = some (.int .i64 a.file) ∧ u.cell? ⟨w.heap.size, 3, none⟩ = some (.bool a.whole) ∧ u.cell? ⟨w.heap.size, 4, none⟩ = some (.int .i64 a.o) ∧ u.cell? ⟨w.heap.size, 5, none⟩ = some (.int .i64 a.f) ∧ u.cell? ⟨w.heap.size, 6, none⟩ = some (.int .i64 a.t) ∧ u.cell? ⟨db, 1189, none⟩ = some (.slice qa d.Q.length qc)) (simp [go_sem, World.cell?_alloc_past, *])
      (first
        | (go_at_call 169; refine (HWY.out _ ?_).mono ?_; exact ((Below.refl _ _).alloc (Nat.le_refl _) _).drew; rintro r w1 ⟨v1, us, rfl, hw1, hb1⟩; obtain ⟨ua, uc, rfl⟩ := own_form hw1.own; have hz1 := hb1.size; simp at hz1; have hb0 : Below w.heap.size w w1 := (((Below.refl _ _).alloc (Nat.le_refl _) _).drew).trans (hb1.mono (by simp)); have hbx := (hb1.block w.heap.size (by simp)).trans (heap_alloc_new w a.boxD); obtain ⟨y0, y1, y2, y3, y4, y5, y6⟩ := BoxA.of hbx; have cq1 := (HV.out.below hb0).k.cQ; have HB1 := Hid.mk hb0; have HX1 := Hid.mk hbx; clear hb1 hb0 hbx hw1))
    have HTA := Hid.mk (dTake_any (HV.out.below HB1.out) HSM.out a HAOK.out.file (live_mem HAOK.out.l) (fun hw => by
      obtain ⟨c, _, hf⟩ := DS.has_iff.1 (HAOK.out.wh hw).1
      rw [HSIM.out.N]; exact (HBAS.out.f _ _ _ hf).2.2.2) HAOK.out.rg)
    have HTK := Hid.mk (HSIM.out.take HBAS.out HAOK.out)
    have HTN := Hid.mk (DK.take_n d a)
    unfold dkPtr dAskV at HTA
    generalize d.take a = TT at *
    obtain ⟨te, tr⟩ := TT
    simp only at HTA HTK HTN
    have htr : tr ≠ 0 := by rw [HTK.out.2]; exact H2.out
    have htr' : (tr != 0) = true := by simpa using htr
    have HTR := Hid.mk htr
    clear htr
    go_wp2_with (go_at_call 171; refine HTA.out.mono ?_; rintro r w3 ⟨rfl, hv3, hk3⟩; have hz3 := hk3.size; have HV3 := Hid.mk hv3; have HK3 := Hid.mk hk3; clear hv3 hk3)
    go_ret2
    refine ⟨by rw [← HTK.out.2]; rfl, ?_, (KD.of_below HB1.out).trans HK3.out⟩
    refine ⟨te, _, HV3.out, ?_, HTN.out.1⟩
    have hh := HTK.out.1
    rw [DS.take_err (by rw [← HTK.out.2]; exact HTR.out)] at hh
    exact hh
set_option maxHeartbeats 16000000 in
set_option maxRecDepth 100000 in
theorem dAsk_go (hP : ∀ b, w.heap.size ≤ b → P b) (h1 : a.k = 0 ∨ s.way a s.Q = []) (h2 : (s.take a).2 = 0) :
    Calls Tryz.prog 144 #[dkPtr db, dAskV a, .bool wait] w fun r w' => ∃ o, r = .returned (.tuple #[o, .int .i64 0]) ∧ w'.ownsRow w.heap.size 57 2 o (s.take a).1.settle.2.length (flatD (s.take a).1.settle.2) ∧ (∃ d' qv', DV w' db P d' ov qv' ∧ Sim (s.take a).1.settle.1 d' ∧ d'.n ≤ d.n + 7) ∧ KD db ov w w' := by
  have hsm := hsim.sm hbas hN (by omega)
  have HSM := Hid.mk hsm
  have HV := Hid.mk h
  have hdb := h.k.lt
  have HWY := Hid.mk (fun (W : World) (hW : Below w.heap.size w W) => dWay_any (h.below hW) hsm a ha.file ha.rg (n0 := d.Q.length) (Nat.le_refl _))
  have HSIM := Hid.mk hsim
  have HBAS := Hid.mk hbas
  have HAOK := Hid.mk ha
  have HNN := Hid.mk hN
  have HMM := Hid.mk hM
  have HWN : Hid (d.way a d.Q = [] ↔ s.way a s.Q = []) := by have := hsim.way_nil hbas ha s.Q; rw [← hsim.Q] at this ⊢; exact this
  rw [List.take_of_length_le (Nat.le_refl _)] at HWY
  have hq7 := hsm.q
  obtain ⟨qa, qc, rfl⟩ := own_form h.q
  have cq := h.k.cQ
  have hle : (d.way a d.Q).length ≤ 10000020 := by
    have h1 := wayQ_len a d.Q
    have h4 := hsm.o
    cases hw : a.whole with
    | false => rw [d.way_range _ hw, List.length_append]; have := d.wayH_len a 6; omega
    | true => rw [d.way_whole _ hw, List.length_append]; have := d.wayW_len a d.O.length; omega
  clear hsm h hsim hbas hN hM ha
  unfold dkPtr dAskV at *
  generalize d.way a d.Q = L at *
  have H2 := Hid.mk h2
  have HPP := Hid.mk hP
  have HBC := Hid.mk (DS.Bas.take HBAS.out HAOK.out (h1.elim DS.Clear.of_zero (fun hw => DS.Clear.of_way HBAS.out hw)))
  clear h2 hP
  by_cases hk : a.k = 0
  · have hk' : (a.k == 0) = true := by simpa using hk
    clear h1 hk
    go_enter Tryz.func144, Tryz.ntmps144
    go_wp2_with fail
    go_region_held3 (fun u => u.cell? ⟨w.heap.size, 0, none⟩ = some (.int .i64 a.p) ∧ u.cell? ⟨w.heap.size, 1, none⟩ = some (.int .i64 a.k) ∧ u.cell? ⟨w.heap.size, 2, none⟩ = some (.int .i64 a.file) ∧ u.cell? ⟨w.heap.size, 3, none⟩ = some (.bool a.whole) ∧ u.cell? ⟨w.heap.size, 4, none⟩ = some (.int .i64 a.o) ∧ u.cell? ⟨w.heap.size, 5, none⟩ = some (.int .i64 a.f) ∧ u.cell? ⟨w.heap.size, 6, none⟩ = some (.int .i64 a.t) ∧ u.cell? ⟨db, 1189, none⟩ = some (.slice qa d.Q.length qc)) (simp [go_sem, World.cell?_alloc_past, *])
      (first
        | (go_at_call 169; refine (HWY.out _ ?_).mono ?_; exact ((Below.refl _ _).alloc (Nat.le_refl _) _).drew; rintro r w1 ⟨v1, us, rfl, hw1, hb1⟩; obtain ⟨ua, uc, rfl⟩ := own_form hw1.own; have hz1 := hb1.size; simp at hz1; have hb0 : Below w.heap.size w w1 := (((Below.refl _ _).alloc (Nat.le_refl _) _).drew).trans (hb1.mono (by simp)); have hbx := (hb1.block w.heap.size (by simp)).trans (heap_alloc_new w a.boxD); obtain ⟨y0, y1, y2, y3, y4, y5, y6⟩ := BoxA.of hbx; have cq1 := (HV.out.below hb0).k.cQ; have HB1 := Hid.mk hb0; have HX1 := Hid.mk hbx; clear hb1 hb0 hbx hw1))
    have HTA := Hid.mk (dTake_any (HV.out.below HB1.out) HSM.out a HAOK.out.file (live_mem HAOK.out.l) (fun hw => by
      obtain ⟨c, _, hf⟩ := DS.has_iff.1 (HAOK.out.wh hw).1
      rw [HSIM.out.N]; exact (HBAS.out.f _ _ _ hf).2.2.2) HAOK.out.rg)
    have HTK := Hid.mk (HSIM.out.take HBAS.out HAOK.out)
    have HTN := Hid.mk (DK.take_n d a)
    unfold dkPtr dAskV at HTA
    generalize d.take a = TT at *
    obtain ⟨te, tr⟩ := TT
    simp only at HTA HTK HTN
    obtain rfl : tr = 0 := by rw [HTK.out.2]; exact H2.out
    have HQ6 := Hid.mk (ones_le (HBC.out.qn) (fun a ha => live_mem (HBC.out.q a ha).1.l))
    have HSET := Hid.mk (fun (W : World) (hW : w.heap.size ≤ W.heap.size) qq (hv : DV W db P te ov qq) => dSettle_any hv HTK.out.1 HBC.out (fun b hb => HPP.out b (by omega)) (by rw [DS.take_N]; exact HNN.out) (by have h1 := HTN.out.1; have h2 := HQ6.out; have h3 := HMM.out; omega))
    unfold dkPtr at HSET
    go_wp2_with (first
      | (go_at_call 171; refine HTA.out.mono ?_; rintro r w3 ⟨rfl, hv3, hk3⟩; have hz3 := hk3.size; have HV3 := Hid.mk hv3; have HK3 := Hid.mk hk3; clear hv3 hk3)
      | (go_at_call 142; refine (HSET.out w3 (by omega) _ HV3.out).mono ?_; rintro r w4 ⟨o4, rfl, ho4, ⟨d4, qv4, hv4, hs4, hn4⟩, hk4⟩; have hz4 := hk4.size; have HO4 := Hid.mk ho4; have HV4 := Hid.mk hv4; have HS4 := Hid.mk hs4; have HN4 := Hid.mk hn4; have HK4 := Hid.mk hk4; clear ho4 hv4 hs4 hn4 hk4))
    go_ret2
    refine ⟨_, rfl, own_mono HO4.out (by omega), ⟨d4, qv4, HV4.out, HS4.out, ?_⟩, ((KD.of_below HB1.out).trans HK3.out).trans HK4.out⟩
    have h1 := HN4.out
    have h2 := HTN.out.1
    have h3 := HQ6.out
    omega
  · have hL0 : L.length = 0 := by rw [HWN.out.2 (h1.resolve_left hk)]; rfl
    have hL : ((L.length : Int) == 0) = true := by simpa using hL0
    have hk' : (a.k == 0) = false := by simpa using hk
    clear h1 hk hL0
    go_enter Tryz.func144, Tryz.ntmps144
    go_wp2_with fail
    go_region_held3 (fun u => u.cell? ⟨w.heap.size, 0, none⟩ = some (.int .i64 a.p) ∧ u.cell? ⟨w.heap.size, 1, none⟩ = some (.int .i64 a.k) ∧ u.cell? ⟨w.heap.size, 2, none⟩ = some (.int .i64 a.file) ∧ u.cell? ⟨w.heap.size, 3, none⟩ = some (.bool a.whole) ∧ u.cell? ⟨w.heap.size, 4, none⟩ = some (.int .i64 a.o) ∧ u.cell? ⟨w.heap.size, 5, none⟩ = some (.int .i64 a.f) ∧ u.cell? ⟨w.heap.size, 6, none⟩ = some (.int .i64 a.t) ∧ u.cell? ⟨db, 1189, none⟩ = some (.slice qa d.Q.length qc)) (simp [go_sem, World.cell?_alloc_past, *])
      (first
        | (go_at_call 169; refine (HWY.out _ ?_).mono ?_; exact ((Below.refl _ _).alloc (Nat.le_refl _) _).drew; rintro r w1 ⟨v1, us, rfl, hw1, hb1⟩; obtain ⟨ua, uc, rfl⟩ := own_form hw1.own; have hz1 := hb1.size; simp at hz1; have hb0 : Below w.heap.size w w1 := (((Below.refl _ _).alloc (Nat.le_refl _) _).drew).trans (hb1.mono (by simp)); have hbx := (hb1.block w.heap.size (by simp)).trans (heap_alloc_new w a.boxD); obtain ⟨y0, y1, y2, y3, y4, y5, y6⟩ := BoxA.of hbx; have cq1 := (HV.out.below hb0).k.cQ; have HB1 := Hid.mk hb0; have HX1 := Hid.mk hbx; clear hb1 hb0 hbx hw1))
    have HTA := Hid.mk (dTake_any (HV.out.below HB1.out) HSM.out a HAOK.out.file (live_mem HAOK.out.l) (fun hw => by
      obtain ⟨c, _, hf⟩ := DS.has_iff.1 (HAOK.out.wh hw).1
      rw [HSIM.out.N]; exact (HBAS.out.f _ _ _ hf).2.2.2) HAOK.out.rg)
    have HTK := Hid.mk (HSIM.out.take HBAS.out HAOK.out)
    have HTN := Hid.mk (DK.take_n d a)
    unfold dkPtr dAskV at HTA
    generalize d.take a = TT at *
    obtain ⟨te, tr⟩ := TT
    simp only at HTA HTK HTN
    obtain rfl : tr = 0 := by rw [HTK.out.2]; exact H2.out
    have HQ6 := Hid.mk (ones_le (HBC.out.qn) (fun a ha => live_mem (HBC.out.q a ha).1.l))
    have HSET := Hid.mk (fun (W : World) (hW : w.heap.size ≤ W.heap.size) qq (hv : DV W db P te ov qq) => dSettle_any hv HTK.out.1 HBC.out (fun b hb => HPP.out b (by omega)) (by rw [DS.take_N]; exact HNN.out) (by have h1 := HTN.out.1; have h2 := HQ6.out; have h3 := HMM.out; omega))
    unfold dkPtr at HSET
    go_wp2_with (first
      | (go_at_call 171; refine HTA.out.mono ?_; rintro r w3 ⟨rfl, hv3, hk3⟩; have hz3 := hk3.size; have HV3 := Hid.mk hv3; have HK3 := Hid.mk hk3; clear hv3 hk3)
      | (go_at_call 142; refine (HSET.out w3 (by omega) _ HV3.out).mono ?_; rintro r w4 ⟨o4, rfl, ho4, ⟨d4, qv4, hv4, hs4, hn4⟩, hk4⟩; have hz4 := hk4.size; have HO4 := Hid.mk ho4; have HV4 := Hid.mk hv4; have HS4 := Hid.mk hs4; have HN4 := Hid.mk hn4; have HK4 := Hid.mk hk4; clear ho4 hv4 hs4 hn4 hk4))
    go_ret2
    refine ⟨_, rfl, own_mono HO4.out (by omega), ⟨d4, qv4, HV4.out, HS4.out, ?_⟩, ((KD.of_below HB1.out).trans HK3.out).trans HK4.out⟩
    have h1 := HN4.out
    have h2 := HTN.out.1
    have h3 := HQ6.out
    omega
set_option maxHeartbeats 16000000 in
set_option maxRecDepth 100000 in
theorem dAsk_wait (hP : ∀ b, w.heap.size ≤ b → P b) (h1 : ¬ (a.k = 0)) (h2 : ¬ (s.way a s.Q = [])) (h3 : wait = true) (hb' : DS.Bas {s with Q := s.Q ++ [a]}) :
    Calls Tryz.prog 144 #[dkPtr db, dAskV a, .bool wait] w fun r w' => ∃ d' qv', DV w' db P d' ov qv' ∧ d'.n = d.n ∧ KD db ov w w' ∧ ((a.p ∈ DS.stuck {s with Q := s.Q ++ [a]} ∧ r = .returned (.tuple #[.slice none 0 0, .int .i64 10]) ∧ Sim s d') ∨ (a.p ∉ DS.stuck {s with Q := s.Q ++ [a]} ∧ r = .returned (.tuple #[.slice none 0 0, .int .i64 11]) ∧ Sim {s with Q := s.Q ++ [a]} d')) := by
  have hsim' : Sim {s with Q := s.Q ++ [a]} {d with Q := d.Q ++ [a]} := by have := hsim.queue (s.Q ++ [a]); rw [hsim.Q]; exact this
  have hsm' := hsim'.sm hb' hN (by show d.n ≤ _; omega)
  have HS2 := Hid.mk hsim'
  have HSTK := Hid.mk (fun (W : World) (v : Value) (hv : DV W db P {d with Q := d.Q ++ [a]} ov v) => dStuck_any hv hsm' hsim' hb')
  have hp6 := mem_ps6.1 (live_mem ha.l)
  obtain ⟨p, hpe⟩ : ∃ p : Nat, a.p = p := ⟨a.p.toNat, by omega⟩
  have hp : p < 6 := by omega
  have hp' : (p : Int) < 6 := by omega
  have HPE := Hid.mk hpe
  have hq0 := h.q
  have HPP := Hid.mk hP
  clear hsim' hsm' hb' hpe hp6
  have hsm := hsim.sm hbas hN (by omega)
  have HSM := Hid.mk hsm
  have HV := Hid.mk h
  have hdb := h.k.lt
  have HWY := Hid.mk (fun (W : World) (hW : Below w.heap.size w W) => dWay_any (h.below hW) hsm a ha.file ha.rg (n0 := d.Q.length) (Nat.le_refl _))
  have HSIM := Hid.mk hsim
  have HBAS := Hid.mk hbas
  have HAOK := Hid.mk ha
  have HNN := Hid.mk hN
  have HMM := Hid.mk hM
  have HWN : Hid (d.way a d.Q = [] ↔ s.way a s.Q = []) := by have := hsim.way_nil hbas ha s.Q; rw [← hsim.Q] at this ⊢; exact this
  rw [List.take_of_length_le (Nat.le_refl _)] at HWY
  have hq7 := hsm.q
  obtain ⟨qa, qc, rfl⟩ := own_form h.q
  have cq := h.k.cQ
  have hle : (d.way a d.Q).length ≤ 10000020 := by
    have h1 := wayQ_len a d.Q
    have h4 := hsm.o
    cases hw : a.whole with
    | false => rw [d.way_range _ hw, List.length_append]; have := d.wayH_len a 6; omega
    | true => rw [d.way_whole _ hw, List.length_append]; have := d.wayW_len a d.O.length; omega
  clear hsm h hsim hbas hN hM ha
  unfold dkPtr dAskV at *
  generalize d.way a d.Q = L at *
  have hL0 : ¬ (L.length = 0) := fun e => h2 (HWN.out.1 (List.eq_nil_of_length_eq_zero e))
  have hL : ((L.length : Int) == 0) = false := by simpa using hL0
  have hk' : (a.k == 0) = false := by simpa using h1
  subst h3
  clear h1 h2 hL0 hP
  have HMK : Hid (∀ (w3 : World) (v3 : Value), Below w.heap.size w w3 → w3.ownsRow w.heap.size 218 7 v3 (d.Q.length + 1) (flatA d.Q ++ askC a) → DV (w3.setCell ⟨db, 1189, none⟩ v3) db P {d with Q := d.Q ++ [a]} ov v3) := fun w3 v3 hb3 ho3 => by
    have hv := HV.out.below hb3
    refine DV.make (w := w3) hv.k (hv.k.setQ _ v3) hv.o ?_ (fun b hne => Below.heap_setCell _ _ _ _ hne) hv.pk hv.po (fun b e => HPP.out b (ho3.lt b e).1)
    show w3.ownsRow 0 218 7 v3 (d.Q ++ [a]).length (flatA (d.Q ++ [a]))
    rw [List.length_append, flatA_app]
    have e : flatA [a] = askC a := by simp [flatA]
    rw [e]
    exact own_mono ho3 (Nat.zero_le _)
  have HBK : Hid (∀ (w3 w4 : World) (v3 : Value), Below w.heap.size w w3 → Below w3.heap.size (w3.setCell ⟨db, 1189, none⟩ v3) w4 → w3.ownsRow w.heap.size 218 7 v3 (d.Q.length + 1) (flatA d.Q ++ askC a) → DV (w4.setCell ⟨db, 1189, none⟩ (.slice qa d.Q.length qc)) db P d ov (.slice qa d.Q.length qc)) := fun w3 w4 v3 hb3 hb4 ho3 => by
    have hz := hb3.size
    have hb4' : Below (w3.setCell ⟨db, 1189, none⟩ v3).heap.size (w3.setCell ⟨db, 1189, none⟩ v3) w4 := hb4.mono (by simp)
    have hv4 := (HMK.out w3 v3 hb3 ho3).below hb4'
    refine DV.make (w := w4) hv4.k (hv4.k.setQ d.Q _) hv4.o ?_ (fun b hne => Below.heap_setCell _ _ _ _ hne) HV.out.pk HV.out.po HV.out.pq
    refine own_blk HV.out.q fun b e => ?_
    have hlt := own_lt HV.out.q e
    exact (hb4.block b (by omega)).trans ((Below.heap_setCell _ _ _ _ (HV.out.ne_q e)).trans (hb3.block b hlt))
  obtain ⟨c, hc⟩ : ∃ c : Nat → Bool, c = fun p : Nat => decide ((p : Int) ∈ DS.stuck {s with Q := s.Q ++ [a]}) := ⟨_, rfl⟩
  rw [← hc] at HSTK
  have HC : Hid (∀ p : Nat, c p = decide ((p : Int) ∈ DS.stuck {s with Q := s.Q ++ [a]})) := fun p => by rw [hc]
  clear hc
  unfold bs6 at HSTK
  rcases hq0.2 with ⟨hnil, hlen0⟩ | ⟨g, cap, cur, hqe, _, hgb, hnc, _, _, _⟩
  · obtain ⟨hqa, hqcc⟩ : qa = none ∧ qc = 0 := by
      have := hnil
      rw [hlen0] at this
      cases this; exact ⟨rfl, rfl⟩
    subst hqa
    subst hqcc
    rw [hlen0] at cq
    have hz0 : ((d.Q.length : Nat) : Int) = 0 := by omega
    rw [hz0] at HWY
    have HCV : Hid (∀ (W : World) (v : Value), W.ownsRow w.heap.size 218 7 v 1 (askC a) → W.ownsRow w.heap.size 218 7 v (d.Q.length + 1) (flatA d.Q ++ askC a)) := fun W v ho => by
      have e : d.Q = [] := List.eq_nil_of_length_eq_zero hlen0
      rw [e]
      exact ho
    clear hnil hz0
    cases hst : c p
    · have HST := Hid.mk hst
      clear hst
      have hqn : d.Q.length ≤ 7 := hq7
      go_enter Tryz.func144, Tryz.ntmps144
      go_wp2_with fail
      go_region_held3 (fun u => u.cell? ⟨w.heap.size, 0, none⟩ = some (.int .i64 a.p) ∧ u.cell? ⟨w.heap.size, 1, none⟩ = some (.int .i64 a.k) ∧ u.cell? ⟨w.heap.size, 2, none⟩ = some (.int .i64 a.file) ∧ u.cell? ⟨w.heap.size, 3, none⟩ = some (.bool a.whole) ∧ u.cell? ⟨w.heap.size, 4, none⟩ = some (.int .i64 a.o) ∧ u.cell? ⟨w.heap.size, 5, none⟩ = some (.int .i64 a.f) ∧ u.cell? ⟨w.heap.size, 6, none⟩ = some (.int .i64 a.t) ∧ u.cell? ⟨db, 1189, none⟩ = some (.slice none 0 0)) (simp [go_sem, World.cell?_alloc_past, *])
        (first
          | (go_at_call 169; refine (HWY.out _ ?_).mono ?_; exact ((Below.refl _ _).alloc (Nat.le_refl _) _).drew; rintro r w1 ⟨v1, us, rfl, hw1, hb1⟩; obtain ⟨ua, uc, rfl⟩ := own_form hw1.own; have hz1 := hb1.size; simp at hz1; have hb0 : Below w.heap.size w w1 := (((Below.refl _ _).alloc (Nat.le_refl _) _).drew).trans (hb1.mono (by simp)); have hbx := (hb1.block w.heap.size (by simp)).trans (heap_alloc_new w a.boxD); obtain ⟨y0, y1, y2, y3, y4, y5, y6⟩ := BoxA.of hbx; have cq1 : w1.cell? ⟨db, 1189, none⟩ = some (.slice none 0 0) := (by have h9 := (HV.out.below hb0).k.cQ; rw [hlen0] at h9; exact h9); have HB1 := Hid.mk hb0; have HX1 := Hid.mk hbx; clear hb1 hb0 hbx hw1))
      have HNE2 : Hid (Value.ownBlock (.slice none 0 0) ≠ some w.heap.size) := fun e => by cases e
      have HO2 : Hid (w1.ownsRow w.heap.size 218 7 (.slice none 0 0) 0 []) := World.ownsRow_nil _ _ _ _
      go_wp2_with (first
        | (at_builtin; refine wpList_snocL rfl _ _ _ rfl Tryz.underlying169 Tryz.infoAskD rfl (by decide) (by decide) rfl HO2.out (by omega) (by omega) (cs := #[.int .i64 a.p, .int .i64 a.k, .int .i64 a.file, .bool a.whole, .int .i64 a.o, .int .i64 a.f, .int .i64 a.t]) rfl (by simp) rfl (by simp [Value.oneCell']) ?_; intro v3 w3 ho3 hb3 hz3 hold3 _; rw [Nat.zero_add, List.nil_append] at ho3; obtain ⟨a3, c3, rfl⟩ := own_form ho3; have ho3' := HCV.out w3 _ ho3; have hb03 : Below w.heap.size w w3 := HB1.out.trans hb3; have d89 : w3.cell? ⟨db, 1189, none⟩ = some (.slice none 0 0) := (by have h9 := (HV.out.below hb03).k.cQ; rw [hlen0] at h9; exact h9); have e89 := (HV.out.below hb03).k.frozen 1189; have hbx3 := (hold3 w.heap.size (by omega) (HNE2.out)).trans HX1.out; have HX3 := Hid.mk hbx3; have HSK := Hid.mk (HSTK.out _ _ (HMK.out w3 _ hb03 ho3')); have HO3 := Hid.mk ho3'; have HB3 := Hid.mk hb03; clear ho3 ho3' hb3 hold3 hb03 hbx3)
        | (go_at_call 172; refine HSK.out.mono ?_; rintro r w4 ⟨rfl, hb4⟩; have hb4' : Below w3.heap.size (w3.setCell ⟨db, 1189, none⟩ (.slice a3 1 c3)) w4 := hb4.mono (by simp); have hz4 : w3.heap.size ≤ w4.heap.size := (by have := hb4'.size; simp at this; exact this); have HSX := Hid.mk (show Six (w4.alloc (.cells (bs6 c) 155)) w4.heap.size c from heap_alloc_new w4 _); have hbx4 := (hb4'.block w.heap.size (by omega)).trans ((Below.heap_setCell _ _ _ _ (by simp; omega)).trans HX3.out); have x0 : w4.cell? ⟨w.heap.size, 0, none⟩ = some (.int .i64 (p : Int)) := (by rw [← HPE.out]; exact (BoxA.of hbx4).c0); have hwl4 : w.heap.size < w4.heap.size := (by omega); have hdb4 : db < w4.heap.size := (by omega); have csx := HSX.out.cell hp; rw [HST.out] at csx; unfold bs6 at csx; have hm4 := HMK.out w3 _ HB3.out HO3.out; have hk4 := (hm4.below hb4).k; have f89 := hk4.cQ; have g89 := hk4.frozen 1189; have HB4 := Hid.mk hb4'; have HM4 := Hid.mk (hm4.below hb4); clear hb4 hb4' hbx4 hm4 hk4))
      go_ret2
      refine ⟨_, _, HM4.out.below ((Below.refl _ _).alloc (Nat.le_refl _) _), rfl, ?_, Or.inr ⟨by rw [HPE.out]; have := HST.out; rw [HC.out] at this; simpa using this, rfl, HS2.out⟩⟩
      exact (((KD.of_below HB3.out).cell (a := ⟨db, 1189, none⟩) (Or.inl rfl) _).belowB (HB4.out.mono (by have := HB3.out.size; omega))).alloc _
    · have HST := Hid.mk hst
      clear hst
      have hqn : d.Q.length ≤ 7 := hq7
      go_enter Tryz.func144, Tryz.ntmps144
      go_wp2_with fail
      go_region_held3 (fun u => u.cell? ⟨w.heap.size, 0, none⟩ = some (.int .i64 a.p) ∧ u.cell? ⟨w.heap.size, 1, none⟩ = some (.int .i64 a.k) ∧ u.cell? ⟨w.heap.size, 2, none⟩ = some (.int .i64 a.file) ∧ u.cell? ⟨w.heap.size, 3, none⟩ = some (.bool a.whole) ∧ u.cell? ⟨w.heap.size, 4, none⟩ = some (.int .i64 a.o) ∧ u.cell? ⟨w.heap.size, 5, none⟩ = some (.int .i64 a.f) ∧ u.cell? ⟨w.heap.size, 6, none⟩ = some (.int .i64 a.t) ∧ u.cell? ⟨db, 1189, none⟩ = some (.slice none 0 0)) (simp [go_sem, World.cell?_alloc_past, *])
        (first
          | (go_at_call 169; refine (HWY.out _ ?_).mono ?_; exact ((Below.refl _ _).alloc (Nat.le_refl _) _).drew; rintro r w1 ⟨v1, us, rfl, hw1, hb1⟩; obtain ⟨ua, uc, rfl⟩ := own_form hw1.own; have hz1 := hb1.size; simp at hz1; have hb0 : Below w.heap.size w w1 := (((Below.refl _ _).alloc (Nat.le_refl _) _).drew).trans (hb1.mono (by simp)); have hbx := (hb1.block w.heap.size (by simp)).trans (heap_alloc_new w a.boxD); obtain ⟨y0, y1, y2, y3, y4, y5, y6⟩ := BoxA.of hbx; have cq1 : w1.cell? ⟨db, 1189, none⟩ = some (.slice none 0 0) := (by have h9 := (HV.out.below hb0).k.cQ; rw [hlen0] at h9; exact h9); have HB1 := Hid.mk hb0; have HX1 := Hid.mk hbx; clear hb1 hb0 hbx hw1))
      have HNE2 : Hid (Value.ownBlock (.slice none 0 0) ≠ some w.heap.size) := fun e => by cases e
      have HO2 : Hid (w1.ownsRow w.heap.size 218 7 (.slice none 0 0) 0 []) := World.ownsRow_nil _ _ _ _
      go_wp2_with (first
        | (at_builtin; refine wpList_snocL rfl _ _ _ rfl Tryz.underlying169 Tryz.infoAskD rfl (by decide) (by decide) rfl HO2.out (by omega) (by omega) (cs := #[.int .i64 a.p, .int .i64 a.k, .int .i64 a.file, .bool a.whole, .int .i64 a.o, .int .i64 a.f, .int .i64 a.t]) rfl (by simp) rfl (by simp [Value.oneCell']) ?_; intro v3 w3 ho3 hb3 hz3 hold3 _; rw [Nat.zero_add, List.nil_append] at ho3; obtain ⟨a3, c3, rfl⟩ := own_form ho3; have ho3' := HCV.out w3 _ ho3; have hb03 : Below w.heap.size w w3 := HB1.out.trans hb3; have d89 : w3.cell? ⟨db, 1189, none⟩ = some (.slice none 0 0) := (by have h9 := (HV.out.below hb03).k.cQ; rw [hlen0] at h9; exact h9); have e89 := (HV.out.below hb03).k.frozen 1189; have hbx3 := (hold3 w.heap.size (by omega) (HNE2.out)).trans HX1.out; have HX3 := Hid.mk hbx3; have HSK := Hid.mk (HSTK.out _ _ (HMK.out w3 _ hb03 ho3')); have HO3 := Hid.mk ho3'; have HB3 := Hid.mk hb03; clear ho3 ho3' hb3 hold3 hb03 hbx3)
        | (go_at_call 172; refine HSK.out.mono ?_; rintro r w4 ⟨rfl, hb4⟩; have hb4' : Below w3.heap.size (w3.setCell ⟨db, 1189, none⟩ (.slice a3 1 c3)) w4 := hb4.mono (by simp); have hz4 : w3.heap.size ≤ w4.heap.size := (by have := hb4'.size; simp at this; exact this); have HSX := Hid.mk (show Six (w4.alloc (.cells (bs6 c) 155)) w4.heap.size c from heap_alloc_new w4 _); have hbx4 := (hb4'.block w.heap.size (by omega)).trans ((Below.heap_setCell _ _ _ _ (by simp; omega)).trans HX3.out); have x0 : w4.cell? ⟨w.heap.size, 0, none⟩ = some (.int .i64 (p : Int)) := (by rw [← HPE.out]; exact (BoxA.of hbx4).c0); have hwl4 : w.heap.size < w4.heap.size := (by omega); have hdb4 : db < w4.heap.size := (by omega); have csx := HSX.out.cell hp; rw [HST.out] at csx; unfold bs6 at csx; have hm4 := HMK.out w3 _ HB3.out HO3.out; have hk4 := (hm4.below hb4).k; have f89 := hk4.cQ; have g89 := hk4.frozen 1189; have HB4 := Hid.mk hb4'; have HM4 := Hid.mk (hm4.below hb4); clear hb4 hb4' hbx4 hm4 hk4))
      go_ret2
      refine ⟨d, .slice none d.Q.length 0, ?_, rfl, ?_, Or.inl ⟨by rw [HPE.out]; have := HST.out; rw [HC.out] at this; simpa using this, rfl, HSIM.out⟩⟩
      · have h9 := HBK.out w3 w4 _ HB3.out HB4.out HO3.out
        rw [hlen0] at h9 ⊢
        exact h9.below ((Below.refl _ _).alloc (Nat.le_refl _) _)
      · exact ((((KD.of_below HB3.out).cell (a := ⟨db, 1189, none⟩) (Or.inl rfl) _).belowB (HB4.out.mono (by have := HB3.out.size; omega))).cell (a := ⟨db, 1189, none⟩) (Or.inl rfl) _).alloc _
  · obtain ⟨hqa, hqcc⟩ : qa = some ⟨g, 0, none⟩ ∧ cap = qc := by cases hqe; exact ⟨rfl, rfl⟩
    subst hqa
    subst hqcc
    clear hqe
    cases hst : c p
    · have HST := Hid.mk hst
      clear hst
      have hqn : d.Q.length ≤ 7 := hq7
      go_enter Tryz.func144, Tryz.ntmps144
      go_wp2_with fail
      go_region_held3 (fun u => u.cell? ⟨w.heap.size, 0, none⟩ = some (.int .i64 a.p) ∧ u.cell? ⟨w.heap.size, 1, none⟩ = some (.int .i64 a.k) ∧ u.cell? ⟨w.heap.size, 2, none⟩ = some (.int .i64 a.file) ∧ u.cell? ⟨w.heap.size, 3, none⟩ = some (.bool a.whole) ∧ u.cell? ⟨w.heap.size, 4, none⟩ = some (.int .i64 a.o) ∧ u.cell? ⟨w.heap.size, 5, none⟩ = some (.int .i64 a.f) ∧ u.cell? ⟨w.heap.size, 6, none⟩ = some (.int .i64 a.t) ∧ u.cell? ⟨db, 1189, none⟩ = some (.slice (some ⟨g, 0, none⟩) d.Q.length cap)) (simp [go_sem, World.cell?_alloc_past, *])
        (first
          | (go_at_call 169; refine (HWY.out _ ?_).mono ?_; exact ((Below.refl _ _).alloc (Nat.le_refl _) _).drew; rintro r w1 ⟨v1, us, rfl, hw1, hb1⟩; obtain ⟨ua, uc, rfl⟩ := own_form hw1.own; have hz1 := hb1.size; simp at hz1; have hb0 : Below w.heap.size w w1 := (((Below.refl _ _).alloc (Nat.le_refl _) _).drew).trans (hb1.mono (by simp)); have hbx := (hb1.block w.heap.size (by simp)).trans (heap_alloc_new w a.boxD); obtain ⟨y0, y1, y2, y3, y4, y5, y6⟩ := BoxA.of hbx; have cq1 := (HV.out.below hb0).k.cQ; have HB1 := Hid.mk hb0; have HX1 := Hid.mk hbx; clear hb1 hb0 hbx hw1))
      have HCL : Hid (∀ j u, (flatA d.Q)[j]? = some u → w1.cell? ((⟨g, 0, none⟩ : Addr).add j) = some u) := fun j u hj => by
        have e1 : (⟨g, 0, none⟩ : Addr).add j = ⟨g, j, none⟩ := by unfold Addr.add; split <;> simp_all
        have hjl : j < d.Q.length * 7 := by rw [← flatA_len]; exact (List.getElem?_eq_some_iff.1 hj).1
        rw [e1, (HV.out.below HB1.out).q.cellAt j hjl]
        exact hj
      go_wp2_with (first
        | (at_builtin; refine wpList_appN rfl _ _ _ rfl Tryz.underlying169 Tryz.infoAskD rfl (by decide) (by decide) (base := w.heap.size) (v := .slice none 0 0) rfl (World.ownsRow_nil _ _ _ _) (by omega) (by omega) (src := ⟨g, 0, none⟩) (m := d.Q.length) rfl (by omega) (flatA_len _) HCL.out (flatA_one _) ?_; intro v2 w2 ho2 hb2 hz2 hold2 hwh2; rw [Nat.zero_add, List.nil_append] at ho2; obtain ⟨a2, c2, rfl⟩ := own_form ho2; have hbx2 := (hold2 w.heap.size (by omega) (by simp [Value.ownBlock])).trans HX1.out; obtain ⟨z0, z1, z2, z3, z4, z5, z6⟩ := BoxA.of hbx2; have HNE2 : Hid (Value.ownBlock (.slice a2 d.Q.length c2) ≠ some w.heap.size) := (fun e => by rcases hwh2 _ e with e2 | e2; (cases e2); omega); have HX2 := Hid.mk hbx2; have HO2 := Hid.mk ho2; have HB2 := Hid.mk (HB1.out.trans hb2); clear ho2 hb2 hold2 hwh2 hbx2)
        | (at_builtin; refine wpList_snocL rfl _ _ _ rfl Tryz.underlying169 Tryz.infoAskD rfl (by decide) (by decide) rfl HO2.out (by omega) (by omega) (cs := #[.int .i64 a.p, .int .i64 a.k, .int .i64 a.file, .bool a.whole, .int .i64 a.o, .int .i64 a.f, .int .i64 a.t]) rfl (by simp) rfl (by simp [Value.oneCell']) ?_; intro v3 w3 ho3 hb3 hz3 hold3 _; obtain ⟨a3, c3, rfl⟩ := own_form ho3; have hb03 : Below w.heap.size w w3 := HB2.out.trans hb3; have d89 := (HV.out.below hb03).k.cQ; have e89 := (HV.out.below hb03).k.frozen 1189; have hbx3 := (hold3 w.heap.size (by omega) (HNE2.out)).trans HX2.out; have HX3 := Hid.mk hbx3; have HSK := Hid.mk (HSTK.out _ _ (HMK.out w3 _ hb03 ho3)); have HO3 := Hid.mk ho3; have HB3 := Hid.mk hb03; clear ho3 hb3 hold3 hb03 hbx3)
        | (go_at_call 172; refine HSK.out.mono ?_; rintro r w4 ⟨rfl, hb4⟩; have hb4' : Below w3.heap.size (w3.setCell ⟨db, 1189, none⟩ (.slice a3 (d.Q.length + 1) c3)) w4 := hb4.mono (by simp); have hz4 : w3.heap.size ≤ w4.heap.size := (by have := hb4'.size; simp at this; exact this); have HSX := Hid.mk (show Six (w4.alloc (.cells (bs6 c) 155)) w4.heap.size c from heap_alloc_new w4 _); have hbx4 := (hb4'.block w.heap.size (by omega)).trans ((Below.heap_setCell _ _ _ _ (by simp; omega)).trans HX3.out); have x0 : w4.cell? ⟨w.heap.size, 0, none⟩ = some (.int .i64 (p : Int)) := (by rw [← HPE.out]; exact (BoxA.of hbx4).c0); have hwl4 : w.heap.size < w4.heap.size := (by omega); have hdb4 : db < w4.heap.size := (by omega); have csx := HSX.out.cell hp; rw [HST.out] at csx; unfold bs6 at csx; have hm4 := HMK.out w3 _ HB3.out HO3.out; have hk4 := (hm4.below hb4).k; have f89 := hk4.cQ; have g89 := hk4.frozen 1189; have HB4 := Hid.mk hb4'; have HM4 := Hid.mk (hm4.below hb4); clear hb4 hb4' hbx4 hm4 hk4))
      go_ret2
      refine ⟨_, _, HM4.out.below ((Below.refl _ _).alloc (Nat.le_refl _) _), rfl, ?_, Or.inr ⟨by rw [HPE.out]; have := HST.out; rw [HC.out] at this; simpa using this, rfl, HS2.out⟩⟩
      exact (((KD.of_below HB3.out).cell (a := ⟨db, 1189, none⟩) (Or.inl rfl) _).belowB (HB4.out.mono (by have := HB3.out.size; omega))).alloc _
    · have HST := Hid.mk hst
      clear hst
      have hqn : d.Q.length ≤ 7 := hq7
      go_enter Tryz.func144, Tryz.ntmps144
      go_wp2_with fail
      go_region_held3 (fun u => u.cell? ⟨w.heap.size, 0, none⟩ = some (.int .i64 a.p) ∧ u.cell? ⟨w.heap.size, 1, none⟩ = some (.int .i64 a.k) ∧ u.cell? ⟨w.heap.size, 2, none⟩ = some (.int .i64 a.file) ∧ u.cell? ⟨w.heap.size, 3, none⟩ = some (.bool a.whole) ∧ u.cell? ⟨w.heap.size, 4, none⟩ = some (.int .i64 a.o) ∧ u.cell? ⟨w.heap.size, 5, none⟩ = some (.int .i64 a.f) ∧ u.cell? ⟨w.heap.size, 6, none⟩ = some (.int .i64 a.t) ∧ u.cell? ⟨db, 1189, none⟩ = some (.slice (some ⟨g, 0, none⟩) d.Q.length cap)) (simp [go_sem, World.cell?_alloc_past, *])
        (first
          | (go_at_call 169; refine (HWY.out _ ?_).mono ?_; exact ((Below.refl _ _).alloc (Nat.le_refl _) _).drew; rintro r w1 ⟨v1, us, rfl, hw1, hb1⟩; obtain ⟨ua, uc, rfl⟩ := own_form hw1.own; have hz1 := hb1.size; simp at hz1; have hb0 : Below w.heap.size w w1 := (((Below.refl _ _).alloc (Nat.le_refl _) _).drew).trans (hb1.mono (by simp)); have hbx := (hb1.block w.heap.size (by simp)).trans (heap_alloc_new w a.boxD); obtain ⟨y0, y1, y2, y3, y4, y5, y6⟩ := BoxA.of hbx; have cq1 := (HV.out.below hb0).k.cQ; have HB1 := Hid.mk hb0; have HX1 := Hid.mk hbx; clear hb1 hb0 hbx hw1))
      have HCL : Hid (∀ j u, (flatA d.Q)[j]? = some u → w1.cell? ((⟨g, 0, none⟩ : Addr).add j) = some u) := fun j u hj => by
        have e1 : (⟨g, 0, none⟩ : Addr).add j = ⟨g, j, none⟩ := by unfold Addr.add; split <;> simp_all
        have hjl : j < d.Q.length * 7 := by rw [← flatA_len]; exact (List.getElem?_eq_some_iff.1 hj).1
        rw [e1, (HV.out.below HB1.out).q.cellAt j hjl]
        exact hj
      go_wp2_with (first
        | (at_builtin; refine wpList_appN rfl _ _ _ rfl Tryz.underlying169 Tryz.infoAskD rfl (by decide) (by decide) (base := w.heap.size) (v := .slice none 0 0) rfl (World.ownsRow_nil _ _ _ _) (by omega) (by omega) (src := ⟨g, 0, none⟩) (m := d.Q.length) rfl (by omega) (flatA_len _) HCL.out (flatA_one _) ?_; intro v2 w2 ho2 hb2 hz2 hold2 hwh2; rw [Nat.zero_add, List.nil_append] at ho2; obtain ⟨a2, c2, rfl⟩ := own_form ho2; have hbx2 := (hold2 w.heap.size (by omega) (by simp [Value.ownBlock])).trans HX1.out; obtain ⟨z0, z1, z2, z3, z4, z5, z6⟩ := BoxA.of hbx2; have HNE2 : Hid (Value.ownBlock (.slice a2 d.Q.length c2) ≠ some w.heap.size) := (fun e => by rcases hwh2 _ e with e2 | e2; (cases e2); omega); have HX2 := Hid.mk hbx2; have HO2 := Hid.mk ho2; have HB2 := Hid.mk (HB1.out.trans hb2); clear ho2 hb2 hold2 hwh2 hbx2)
        | (at_builtin; refine wpList_snocL rfl _ _ _ rfl Tryz.underlying169 Tryz.infoAskD rfl (by decide) (by decide) rfl HO2.out (by omega) (by omega) (cs := #[.int .i64 a.p, .int .i64 a.k, .int .i64 a.file, .bool a.whole, .int .i64 a.o, .int .i64 a.f, .int .i64 a.t]) rfl (by simp) rfl (by simp [Value.oneCell']) ?_; intro v3 w3 ho3 hb3 hz3 hold3 _; obtain ⟨a3, c3, rfl⟩ := own_form ho3; have hb03 : Below w.heap.size w w3 := HB2.out.trans hb3; have d89 := (HV.out.below hb03).k.cQ; have e89 := (HV.out.below hb03).k.frozen 1189; have hbx3 := (hold3 w.heap.size (by omega) (HNE2.out)).trans HX2.out; have HX3 := Hid.mk hbx3; have HSK := Hid.mk (HSTK.out _ _ (HMK.out w3 _ hb03 ho3)); have HO3 := Hid.mk ho3; have HB3 := Hid.mk hb03; clear ho3 hb3 hold3 hb03 hbx3)
        | (go_at_call 172; refine HSK.out.mono ?_; rintro r w4 ⟨rfl, hb4⟩; have hb4' : Below w3.heap.size (w3.setCell ⟨db, 1189, none⟩ (.slice a3 (d.Q.length + 1) c3)) w4 := hb4.mono (by simp); have hz4 : w3.heap.size ≤ w4.heap.size := (by have := hb4'.size; simp at this; exact this); have HSX := Hid.mk (show Six (w4.alloc (.cells (bs6 c) 155)) w4.heap.size c from heap_alloc_new w4 _); have hbx4 := (hb4'.block w.heap.size (by omega)).trans ((Below.heap_setCell _ _ _ _ (by simp; omega)).trans HX3.out); have x0 : w4.cell? ⟨w.heap.size, 0, none⟩ = some (.int .i64 (p : Int)) := (by rw [← HPE.out]; exact (BoxA.of hbx4).c0); have hwl4 : w.heap.size < w4.heap.size := (by omega); have hdb4 : db < w4.heap.size := (by omega); have csx := HSX.out.cell hp; rw [HST.out] at csx; unfold bs6 at csx; have hm4 := HMK.out w3 _ HB3.out HO3.out; have hk4 := (hm4.below hb4).k; have f89 := hk4.cQ; have g89 := hk4.frozen 1189; have HB4 := Hid.mk hb4'; have HM4 := Hid.mk (hm4.below hb4); clear hb4 hb4' hbx4 hm4 hk4))
      go_ret2
      refine ⟨d, .slice (some ⟨g, 0, none⟩) d.Q.length cap, ?_, rfl, ?_, Or.inl ⟨by rw [HPE.out]; have := HST.out; rw [HC.out] at this; simpa using this, rfl, HSIM.out⟩⟩
      · exact (HBK.out w3 w4 _ HB3.out HB4.out HO3.out).below ((Below.refl _ _).alloc (Nat.le_refl _) _)
      · exact ((((KD.of_below HB3.out).cell (a := ⟨db, 1189, none⟩) (Or.inl rfl) _).belowB (HB4.out.mono (by have := HB3.out.size; omega))).cell (a := ⟨db, 1189, none⟩) (Or.inl rfl) _).alloc _
end
theorem DS.Bas.queued {s : DS} (h : s.Bas) {a : Ask} (ha : s.AskOk a) (hk : a.k ≠ 0) (hn : ∀ b, b ∈ s.Q → b.p ≠ a.p) : DS.Bas {s with Q := s.Q ++ [a]} :=
  ⟨h.f, h.o, h.wf, h.len, h.lv, h.nb, h.w, h.wn, List.pairwise_append.2 ⟨h.qn, List.pairwise_singleton _ _, fun x hx y hy => by rw [List.mem_singleton] at hy; rw [hy]; exact hn x hx⟩, fun b hb => by
    rcases List.mem_append.1 hb with hb | hb
    · exact ⟨(h.q b hb).1.congr rfl rfl rfl, (h.q b hb).2⟩
    · rw [List.mem_singleton] at hb
      subst hb
      exact ⟨ha.congr rfl rfl rfl, hk⟩⟩
theorem DS.ask_parts (s : DS) (a : Ask) (wait : Bool) : s.ask a wait = if a.k = 0 ∨ s.way a s.Q = [] then (if (s.take a).2 ≠ 0 then (s, rerr (s.take a).2) else (s.take a).1.settled) else if wait = false then (s, rerr 8) else if a.p ∈ (DS.stuck {s with Q := s.Q ++ [a]}) then (s, rerr 10) else ({s with Q := s.Q ++ [a]}, rerr 11) := rfl
/-- A lock is asked for, or freed. -/
theorem dAsk_any {w : World} {db : Nat} {P : Nat → Prop} {d : DK} {ov qv : Value} {s : DS} (h : DV w db P d ov qv) (hsim : Sim s d) (hbas : s.Bas) (hP : ∀ b, w.heap.size ≤ b → P b) (hN : s.N ≤ 10000000) (hM : d.n + 7 ≤ 100000000) (a : Ask) (ha : s.AskOk a) (hn : ∀ b, b ∈ s.Q → b.p ≠ a.p) (wait : Bool) :
    Calls Tryz.prog 144 #[dkPtr db, dAskV a, .bool wait] w fun r w' => DoneD w w' db P r (s.ask a wait).1 (s.ask a wait).2.e (s.ask a wait).2.d (d.n + 7) := by
  rw [DS.ask_parts]
  have nil : ∀ {w w' : World}, w'.ownsRow w.heap.size 57 2 (.slice none 0 0) ([] : List Dn).length (flatD []) := fun {w w'} => World.ownsRow_nil _ _ _ _
  by_cases h1 : a.k = 0 ∨ s.way a s.Q = []
  · rw [if_pos h1]
    by_cases h2 : (s.take a).2 = 0
    · rw [if_neg (fun e => e h2)]
      refine (dAsk_go h hsim hbas hN hM a ha wait hP h1 h2).mono ?_
      rintro r w' ⟨o, rfl, ho, ⟨d', qv', h4, h5, h6⟩, hk⟩
      exact ⟨o, rfl, ho, ⟨d', ov, qv', h4, h5, h6⟩, hk.upd h.pk h.po⟩
    · rw [if_pos h2]
      refine (dAsk_err h hsim hbas hN hM a ha wait h1 h2).mono ?_
      rintro r w' ⟨rfl, ⟨d', qv', h4, h5, h6⟩, hk⟩
      exact ⟨_, rfl, nil, ⟨d', ov, qv', h4, h5, by omega⟩, hk.upd h.pk h.po⟩
  · rw [if_neg h1]
    have h2 : ¬ (a.k = 0) := fun e => h1 (Or.inl e)
    have h3 : ¬ (s.way a s.Q = []) := fun e => h1 (Or.inr e)
    cases wait with
    | false =>
      refine (dAsk_busy h hsim hbas hN hM a ha false h2 h3 rfl).mono ?_
      rintro r w' ⟨rfl, hb⟩
      exact ⟨_, rfl, nil, ⟨d, ov, qv, h.below hb, hsim, by omega⟩, Upd.of_below hb⟩
    | true =>
      rw [if_neg (by simp)]
      refine (dAsk_wait h hsim hbas hN hM a ha true hP h2 h3 rfl (hbas.queued ha h2 hn)).mono ?_
      rintro r w' ⟨d', qv', hv, hdn, hk, hor⟩
      rcases hor with ⟨h4, rfl, h5⟩ | ⟨h4, rfl, h5⟩
      · rw [if_pos h4]
        exact ⟨_, rfl, nil, ⟨d', ov, qv', hv, h5, by omega⟩, hk.upd h.pk h.po⟩
      · rw [if_neg h4]
        exact ⟨_, rfl, nil, ⟨d', ov, qv', hv, h5, by omega⟩, hk.upd h.pk h.po⟩
end Go.Proofs.YtaicdjhblbobbaaGreat

/- Contracts of the document's answer: Lock, Whole, Close. -/
namespace Go.Proofs.YtaicdjhblbobbaaGreat
open Go.RowKit Go.Lib

theorem DS.find_errD {s : DS} {p e x : Int} (hf : s.find p e = .error x) : x ≠ 0 := by
  unfold DS.find at hf
  split at hf
  · cases hf; assumption
  · split at hf
    · cases hf; decide
    · split at hf <;> cases hf
      decide
theorem DoneD.after {w W w' : World} {db : Nat} {P : Nat → Prop} {r : Ending} {s' : DS} {e : Int} {l : List Dn} {M : Int} (hb : Below w.heap.size w W) (h : DoneD W w' db P r s' e l M) : DoneD w w' db P r s' e l M := by
  obtain ⟨o, h1, h2, h3, h4⟩ := h
  exact ⟨o, h1, own_mono h2 hb.size, h3, (Upd.of_below hb).trans h4⟩
theorem DoneD.upd {w W w' : World} {db : Nat} {P : Nat → Prop} {r : Ending} {s' : DS} {e : Int} {l : List Dn} {M M' : Int} (hb : Upd P P w W) (hM : M ≤ M') (h : DoneD W w' db P r s' e l M) : DoneD w w' db P r s' e l M' := by
  obtain ⟨o, h1, h2, ⟨d', ov', qv', h3, h5, h6⟩, h4⟩ := h
  exact ⟨o, h1, own_mono h2 hb.size, ⟨d', ov', qv', h3, h5, by omega⟩, hb.trans h4⟩
theorem DoneD.err {w w' : World} {db : Nat} {P : Nat → Prop} {d : DK} {ov qv : Value} {s : DS} (h : DV w db P d ov qv) (hsim : Sim s d) {M : Int} (hM : d.n ≤ M) {x : Int} {r : Ending} (hr : r = .returned (.tuple #[.slice none 0 0, .int .i64 x])) (hb : Below w.heap.size w w') : DoneD w w' db P r s x [] M :=
  ⟨_, hr, World.ownsRow_nil _ _ _ _, ⟨d, ov, qv, h.below hb, hsim, hM⟩, Upd.of_below hb⟩

set_option maxHeartbeats 4000000 in
set_option maxRecDepth 100000 in
theorem dLock_err {w : World} {db : Nat} {p e k f l x : Int} {wait : Bool} (hA : Calls Tryz.prog 139 #[dkPtr db, .int .i64 p, .int .i64 e, .int .i64 k, .int .i64 f, .int .i64 l, .int .i64 0] w fun r w' => r = .returned (.tuple #[zeroAV, .int .i64 x]) ∧ Below w.heap.size w w') (hx : x ≠ 0) :
    Calls Tryz.prog 107 #[dkPtr db, .int .i64 p, .int .i64 e, .int .i64 k, .int .i64 f, .int .i64 l, .bool wait] w fun r w' => r = .returned (.tuple #[.slice none 0 0, .int .i64 x]) ∧ Below w.heap.size w w' := by
  have HA := Hid.mk hA
  have hx' : (x != 0) = true := by simpa using hx
  clear hA hx
  unfold dkPtr zeroAV at *
  go_enter Tryz.func107, Tryz.ntmps107
  go_wp2_with (go_at_call 139; refine HA.out.mono ?_; rintro r w1 ⟨rfl, hb1⟩; have hz1 := hb1.size; have HB1 := Hid.mk hb1; clear hb1)
  go_ret2
  exact ⟨rfl, HB1.out.trans (((Below.refl _ _).alloc (Nat.le_refl _) _).mono hz1)⟩
set_option maxHeartbeats 4000000 in
set_option maxRecDepth 100000 in
theorem dLock_ok {w : World} {db : Nat} {p e k f l : Int} {wait : Bool} {a : Ask} {R : World → Ending → World → Prop} (hA : Calls Tryz.prog 139 #[dkPtr db, .int .i64 p, .int .i64 e, .int .i64 k, .int .i64 f, .int .i64 l, .int .i64 0] w fun r w' => r = .returned (.tuple #[dAskV a, .int .i64 0]) ∧ Below w.heap.size w w')
    (hK : ∀ W, Below w.heap.size w W → Calls Tryz.prog 144 #[dkPtr db, dAskV a, .bool wait] W fun r w' => ∃ o x, r = .returned (.tuple #[o, .int .i64 x]) ∧ R W r w') :
    Calls Tryz.prog 107 #[dkPtr db, .int .i64 p, .int .i64 e, .int .i64 k, .int .i64 f, .int .i64 l, .bool wait] w fun r w' => ∃ W, Below w.heap.size w W ∧ R W r w' := by
  have HA := Hid.mk hA
  have HK := Hid.mk hK
  clear hA hK
  unfold dkPtr dAskV at *
  go_enter Tryz.func107, Tryz.ntmps107
  go_wp2_with (first
    | (go_at_call 139; refine HA.out.mono ?_; rintro r w1 ⟨rfl, hb1⟩; have hz1 := hb1.size; have HB1 := Hid.mk hb1; clear hb1)
    | (go_at_call 144; refine (HK.out _ ?_).mono ?_; exact HB1.out.trans (((Below.refl _ _).alloc (Nat.le_refl _) _).mono hz1); rintro r w2 ⟨o2, x2, rfl, hr2⟩; have HR2 := Hid.mk hr2; clear hr2))
  go_ret2
  exact ⟨_, HB1.out.trans (((Below.refl _ _).alloc (Nat.le_refl _) _).mono hz1), HR2.out⟩
theorem DoneD.shape {w w' : World} {db : Nat} {P : Nat → Prop} {r : Ending} {s' : DS} {e : Int} {l : List Dn} {M : Int} (h : DoneD w w' db P r s' e l M) : ∃ o x, r = .returned (.tuple #[o, .int .i64 x]) ∧ DoneD w w' db P r s' e l M := by
  obtain ⟨o, h1, h2⟩ := h
  exact ⟨o, e, h1, o, h1, h2⟩
section
variable {w : World} {db : Nat} {P : Nat → Prop} {d : DK} {ov qv : Value} {s : DS} (h : DV w db P d ov qv) (hsim : Sim s d) (hbas : s.Bas) (hP : ∀ b, w.heap.size ≤ b → P b) (hN : s.N ≤ 10000000) (hM : d.n + 7 ≤ 100000000)
include h hsim hbas hP hN hM
theorem dLock_any (p e k f l : Int) (wait : Bool) :
    Calls Tryz.prog 107 #[dkPtr db, .int .i64 p, .int .i64 e, .int .i64 k, .int .i64 f, .int .i64 l, .bool wait] w fun r w' => DoneD w w' db P r (s.lock p e k f l wait).1 (s.lock p e k f l wait).2.e (s.lock p e k f l wait).2.d (d.n + 7) := by
  have hsm := hsim.sm hbas hN (by omega)
  have hfd := hsim.fd p e
  unfold DS.lock
  cases hf : s.find p e with
  | error x =>
    rw [hf] at hfd
    have hx : x ≠ 0 := by
      unfold DS.find at hf
      split at hf
      · cases hf; assumption
      · split at hf
        · cases hf; decide
        · split at hf <;> cases hf
          decide
    have h2 : (d.fd p e).2 = x := by rw [hfd]
    refine (dLock_err (wait := wait) (by have := dAsked_fd h hsm p e k f l 0 (by rw [h2]; exact hx); rw [h2] at this; exact this) hx).mono ?_
    rintro r w' ⟨hr, hb⟩
    exact DoneD.err h hsim (by omega) hr hb
  | ok o =>
    rw [hf] at hfd
    have h1 : (d.fd p e).1 = (o : Int) := by rw [hfd]
    have h2 : (d.fd p e).2 = 0 := by rw [hfd]
    obtain ⟨hm, _, _, hF⟩ := DS.find_ok hf
    have ho := (hbas.f _ _ _ hF).2.2.2
    by_cases hk : kindB k = false
    · simp only [hk, if_true]
      refine (dLock_err (wait := wait) (dAsked_kind h hsm p e k f l 0 h2 (by unfold kindB at hk; simp at hk; omega)) (by decide)).mono ?_
      rintro r w' ⟨hr, hb⟩
      exact DoneD.err h hsim (by omega) hr hb
    · simp only [hk]
      have hk2 : 0 ≤ k ∧ k ≤ 2 := by unfold kindB at hk; simp at hk; omega
      by_cases hr : badS f l = true
      · simp only [hr, if_true]
        refine (dLock_err (wait := wait) (dAsked_range h hsm p e k f l 0 h2 hk2 hr) (by decide)).mono ?_
        rintro r w' ⟨hr, hb⟩
        exact DoneD.err h hsim (by omega) hr hb
      · simp only [hr]
        have ha := DS.AskOk.lock hbas hf hk hr
        have hnw : ∀ b, b ∈ s.Q → b.p ≠ p := fun b hb e => by
          have := (DS.may_ok hm).2
          unfold DS.waits at this
          rw [List.any_eq_false] at this
          exact this b hb (by simpa using e)
        refine (dLock_ok (R := fun W r w' => DoneD W w' db P r (s.ask ⟨p, k, s.O o, false, o, fromS f l, toS f l⟩ wait).1 (s.ask ⟨p, k, s.O o, false, o, fromS f l, toS f l⟩ wait).2.e (s.ask ⟨p, k, s.O o, false, o, fromS f l, toS f l⟩ wait).2.d (d.n + 7)) (dAsked_ok h hsm p e k f l 0 h2 h1 (by rw [hsim.N]; exact ho) (hsim.file ho) hk2 (by simpa using hr)) (fun W hW => ?_)).mono ?_
        · refine (dAsk_any (h.below hW) hsim hbas (fun b hb => hP b (by have := hW.size; omega)) hN hM _ ha hnw wait).mono ?_
          exact fun r w' hd => hd.shape
        · rintro r w' ⟨W, hW, hd⟩
          exact hd.after hW
set_option maxHeartbeats 4000000 in
set_option maxRecDepth 100000 in
omit hsim hbas hP hN hM in
theorem dWhole_fd (hsm : d.Sm) (p e k : Int) (wait : Bool) (he : (d.fd p e).2 ≠ 0) :
    Calls Tryz.prog 106 #[dkPtr db, .int .i64 p, .int .i64 e, .int .i64 k, .bool wait] w fun r w' => r = .returned (.tuple #[.slice none 0 0, .int .i64 (d.fd p e).2]) ∧ w' = w := by
  have HF := Hid.mk (dFd_any h hsm p e)
  clear h hsm
  unfold dkPtr at *
  generalize (d.fd p e).1 = o at *
  generalize (d.fd p e).2 = x at *
  have hx : (x != 0) = true := by simpa using he
  clear he
  go_enter Tryz.func106, Tryz.ntmps106
  go_wp2_with (go_at_call 138; refine HF.out.mono ?_; rintro r w1 ⟨rfl, hw⟩; have hw2 := hw.symm; clear hw; subst hw2)
  go_ret2
  exact ⟨rfl, rfl⟩
set_option maxHeartbeats 4000000 in
set_option maxRecDepth 100000 in
omit hsim hbas hP hN hM in
theorem dWhole_kind (hsm : d.Sm) (p e k : Int) (wait : Bool) (he : (d.fd p e).2 = 0) (hk : k < 0 ∨ 2 < k) :
    Calls Tryz.prog 106 #[dkPtr db, .int .i64 p, .int .i64 e, .int .i64 k, .bool wait] w fun r w' => r = .returned (.tuple #[.slice none 0 0, .int .i64 6]) ∧ w' = w := by
  have HF := Hid.mk (dFd_any h hsm p e)
  clear h hsm
  unfold dkPtr at *
  generalize (d.fd p e).1 = o at *
  generalize (d.fd p e).2 = x at *
  subst he
  by_cases h0 : k < 0
  · clear hk
    go_enter Tryz.func106, Tryz.ntmps106
    go_wp2_with (go_at_call 138; refine HF.out.mono ?_; rintro r w1 ⟨rfl, hw⟩; have hw2 := hw.symm; clear hw; subst hw2)
    go_ret2
    exact ⟨rfl, rfl⟩
  · have h2 : 2 < k := by omega
    clear hk
    go_enter Tryz.func106, Tryz.ntmps106
    go_wp2_with (go_at_call 138; refine HF.out.mono ?_; rintro r w1 ⟨rfl, hw⟩; have hw2 := hw.symm; clear hw; subst hw2)
    go_ret2
    exact ⟨rfl, rfl⟩
set_option maxHeartbeats 4000000 in
set_option maxRecDepth 100000 in
omit hsim hbas hP hN hM in
theorem dWhole_ok (hsm : d.Sm) (p e k : Int) (wait : Bool) (he : (d.fd p e).2 = 0) {o : Nat} (ho : (d.fd p e).1 = o) (hlt : o < d.O.length) {fl : Nat} (hfl : d.file o = fl) (hk : 0 ≤ k ∧ k ≤ 2) {R : Ending → World → Prop}
    (hK : Calls Tryz.prog 144 #[dkPtr db, dAskV ⟨p, k, fl, true, o, 0, 0⟩, .bool wait] w fun r w' => ∃ o x, r = .returned (.tuple #[o, .int .i64 x]) ∧ R r w') :
    Calls Tryz.prog 106 #[dkPtr db, .int .i64 p, .int .i64 e, .int .i64 k, .bool wait] w fun r w' => R r w' := by
  have HF := Hid.mk (dFd_any h hsm p e)
  have HK := Hid.mk hK
  obtain ⟨oa, oc, rfl⟩ := own_form h.o
  obtain ⟨x, hx⟩ : ∃ x, d.O[o]? = some x := ⟨_, List.getElem?_eq_getElem hlt⟩
  have c36 := h.k.cO
  obtain ⟨g, rfl, hg, k0, _, _⟩ := ogAt h.o hx
  rw [show x.f = fl by rw [← hfl, DK.file_set hx]] at k0
  have hol := hsm.o
  have hlt' : (o : Int) < (d.O.length : Int) := by omega
  rw [ho] at HF
  clear h hsm hK hx hfl ho
  unfold dkPtr dAskV at *
  simp only at HK
  generalize (d.fd p e).2 = y at *
  subst he
  have h0 : ¬ k < 0 := by omega
  have h2 : ¬ 2 < k := by omega
  clear hk
  go_enter Tryz.func106, Tryz.ntmps106
  go_wp2_with (first
    | (go_at_call 138; refine HF.out.mono ?_; rintro r w1 ⟨rfl, hw⟩; have hw2 := hw.symm; clear hw; subst hw2)
    | (go_at_call 144; refine HK.out.mono ?_; rintro r w2 ⟨o2, x2, rfl, hr2⟩; have HR2 := Hid.mk hr2; clear hr2))
  exact HR2.out
theorem dWhole_any (p e k : Int) (wait : Bool) :
    Calls Tryz.prog 106 #[dkPtr db, .int .i64 p, .int .i64 e, .int .i64 k, .bool wait] w fun r w' => DoneD w w' db P r (s.whole p e k wait).1 (s.whole p e k wait).2.e (s.whole p e k wait).2.d (d.n + 7) := by
  have hsm := hsim.sm hbas hN (by omega)
  have hfd := hsim.fd p e
  unfold DS.whole
  cases hf : s.find p e with
  | error x =>
    rw [hf] at hfd
    have hx : x ≠ 0 := DS.find_errD hf
    have h2 : (d.fd p e).2 = x := by rw [hfd]
    refine (dWhole_fd h hsm p e k wait (by rw [h2]; exact hx)).mono ?_
    rintro r w' ⟨hr, rfl⟩
    rw [h2] at hr
    exact DoneD.err h hsim (by omega) hr (Below.refl _ _)
  | ok o =>
    rw [hf] at hfd
    have h1 : (d.fd p e).1 = (o : Int) := by rw [hfd]
    have h2 : (d.fd p e).2 = 0 := by rw [hfd]
    obtain ⟨hm, _, _, hF⟩ := DS.find_ok hf
    have ho := (hbas.f _ _ _ hF).2.2.2
    by_cases hk : kindB k = false
    · simp only [hk, if_true]
      refine (dWhole_kind h hsm p e k wait h2 (by unfold kindB at hk; simp at hk; omega)).mono ?_
      rintro r w' ⟨hr, rfl⟩
      exact DoneD.err h hsim (by omega) hr (Below.refl _ _)
    · simp only [hk]
      have hk2 : 0 ≤ k ∧ k ≤ 2 := by unfold kindB at hk; simp at hk; omega
      have ha := DS.AskOk.whole hbas hf hk
      have hnw : ∀ b, b ∈ s.Q → b.p ≠ p := fun b hb e => by
        have := (DS.may_ok hm).2
        unfold DS.waits at this
        rw [List.any_eq_false] at this
        exact this b hb (by simpa using e)
      refine dWhole_ok h hsm p e k wait h2 h1 (by rw [hsim.N]; exact ho) (hsim.file ho) hk2 ?_
      exact (dAsk_any h hsim hbas hP hN hM _ ha hnw wait).mono fun r w' hd => hd.shape
set_option maxHeartbeats 4000000 in
set_option maxRecDepth 100000 in
omit hsim hbas hP hN hM in
theorem dClose_fd (hsm : d.Sm) (p e : Int) (he : (d.fd p e).2 ≠ 0) :
    Calls Tryz.prog 105 #[dkPtr db, .int .i64 p, .int .i64 e] w fun r w' => r = .returned (.tuple #[.slice none 0 0, .int .i64 (d.fd p e).2]) ∧ w' = w := by
  have HF := Hid.mk (dFd_any h hsm p e)
  clear h hsm
  unfold dkPtr at *
  generalize (d.fd p e).1 = o at *
  generalize (d.fd p e).2 = x at *
  have hx : (x != 0) = true := by simpa using he
  clear he
  go_enter Tryz.func105, Tryz.ntmps105
  go_wp2_with (go_at_call 138; refine HF.out.mono ?_; rintro r w1 ⟨rfl, hw⟩; have hw2 := hw.symm; clear hw; subst hw2)
  go_ret2
  exact ⟨rfl, rfl⟩
set_option maxHeartbeats 8000000 in
set_option maxRecDepth 100000 in
omit hsim hbas hP hN hM in
theorem dClose_ok (hsm : d.Sm) {p e : Nat} (hp : p < 6) (he5 : e < 5) (he : (d.fd p e).2 = 0) {o : Nat} (ho : (d.fd p e).1 = o) (hlt : o < d.O.length) {fl : Nat} (hfl : d.file o = fl) (hf3 : fl < 3) {R : World → Ending → World → Prop}
    (hK : ∀ W, DV W db P {d with G := putG d.G p e 0, C := dropC d.C p fl} ov qv → Kp [db] w W → Calls Tryz.prog 142 #[dkPtr db] W fun r w' => ∃ o, r = .returned o ∧ R W (.returned (.tuple #[o, .int .i64 0])) w') :
    Calls Tryz.prog 105 #[dkPtr db, .int .i64 p, .int .i64 e] w fun r w' => ∃ W, Kp [db] w W ∧ R W r w' := by
  have HF := Hid.mk (dFd_any h hsm p e)
  have HK := Hid.mk hK
  have HV := Hid.mk h
  obtain ⟨oa, oc, rfl⟩ := own_form h.o
  obtain ⟨x, hx⟩ : ∃ x, d.O[o]? = some x := ⟨_, List.getElem?_eq_getElem hlt⟩
  have c36 := h.k.cO
  have cg := h.k.cG hp he5
  have fg := h.k.frozen (6 + p * 5 + e)
  have hdb := h.k.lt
  have hgd : ∀ b, Value.ownBlock (.slice oa d.O.length oc) = some b → b ≠ db := fun b e => h.ne_o e
  obtain ⟨g, rfl, hg, k0, _, _⟩ := ogAt h.o hx
  have hgdb : g ≠ db := hgd g rfl
  have hdbg : db ≠ g := fun e => hgdb e.symm
  rw [show x.f = fl by rw [← hfl, DK.file_set hx]] at k0
  have HDR := Hid.mk (dDrop_any (h.k.setG hp he5 0) hp hf3)
  have hol := hsm.o
  have hlt' : (o : Int) < (d.O.length : Int) := by omega
  have hp' : (p : Int) < 6 := by omega
  have he' : (e : Int) < 5 := by omega
  rw [ho] at HF
  clear h hsm hK hx hfl ho hgd
  unfold dkPtr at *
  generalize (d.fd p e).2 = y at *
  subst he
  go_enter Tryz.func105, Tryz.ntmps105
  go_wp2_with (first
    | (go_at_call 138; refine HF.out.mono ?_; rintro r w1 ⟨rfl, hw⟩; have hw2 := hw.symm; clear hw; subst hw2)
    | (go_at_call 141; refine HDR.out.mono ?_; rintro r w2 ⟨rfl, hk2, hkp2⟩; have hkp : Kp [db] w w2 := (Kp.setCell (a := ⟨db, _, none⟩) (by simp)).trans hkp2; have HKP := Hid.mk hkp; have HV2 := Hid.mk (HV.out.turn hk2 rfl rfl hkp); clear hk2 hkp2 hkp)
    | (go_at_call 142; refine (HK.out w2 HV2.out HKP.out).mono ?_; rintro r w3 ⟨o3, rfl, hr3⟩; have HR3 := Hid.mk hr3; clear hr3))
  go_ret2
  exact ⟨w2, HKP.out, HR3.out⟩
theorem dClose_any (p e : Int) :
    Calls Tryz.prog 105 #[dkPtr db, .int .i64 p, .int .i64 e] w fun r w' => DoneD w w' db P r (s.close p e).1 (s.close p e).2.e (s.close p e).2.d (d.n + 7) := by
  have hsm := hsim.sm hbas hN (by omega)
  have hfd := hsim.fd p e
  unfold DS.close
  cases hf : s.find p e with
  | error x =>
    rw [hf] at hfd
    have hx : x ≠ 0 := DS.find_errD hf
    have h2 : (d.fd p e).2 = x := by rw [hfd]
    refine (dClose_fd h hsm p e (by rw [h2]; exact hx)).mono ?_
    rintro r w' ⟨hr, rfl⟩
    rw [h2] at hr
    exact DoneD.err h hsim (by omega) hr (Below.refl _ _)
  | ok o =>
    rw [hf] at hfd
    have h1 : (d.fd p e).1 = (o : Int) := by rw [hfd]
    have h2 : (d.fd p e).2 = 0 := by rw [hfd]
    obtain ⟨hm, he0, he5, hF⟩ := DS.find_ok hf
    have ho := (hbas.f _ _ _ hF).2.2.2
    have hp := may_range hm
    obtain ⟨pn, rfl⟩ : ∃ pn : Nat, p = pn := ⟨p.toNat, by omega⟩
    obtain ⟨en, rfl⟩ : ∃ en : Nat, e = en := ⟨e.toNat, by omega⟩
    have hsim2 := hsim.shut hbas (p := pn) (e := en) (o := o)
    have hbas2 : (s.shut pn en o).Bas := hbas.shut (DS.may_ok hm).2
    have hq6 := ones_le hbas2.qn (fun a ha => live_mem (hbas2.q a ha).1.l)
    refine (dClose_ok h hsm (by omega) (by omega) h2 h1 (by rw [hsim.N]; exact ho) (hsim.file ho) (hbas.o o) (R := fun W r w' => DoneD W w' db P r (s.shut pn en o).settle.1 0 (s.shut pn en o).settle.2 (d.n + 7)) (fun W hv hkp => ?_)).mono ?_
    · refine (dSettle_any hv hsim2 hbas2 (fun b hb => hP b (by have := hkp.size; omega)) hN (by show d.n + _ ≤ _; omega)).mono ?_
      rintro r w' ⟨o', rfl, ho', ⟨d', qv', a1, a2, a3⟩, hk⟩
      exact ⟨o', rfl, o', rfl, ho', ⟨d', ov, qv', a1, a2, by have a4 : d'.n ≤ d.n + _ := a3; omega⟩, hk.upd h.pk h.po⟩
    · rintro r w' ⟨W, hkp, hd⟩
      exact hd.upd (Upd.of_kp hkp (fun b hb => by rw [List.mem_singleton] at hb; rw [hb]; exact h.pk)) (Int.le_refl _)
end
end Go.Proofs.YtaicdjhblbobbaaGreat
