/- Contracts of the document's answer, on: Test. -/
import Derived.Test.YtaicdjhblbobbaaGreatPDeskH
import Derived.Test.YtaicdjhblbobbaaGreatPDeskA
import Derived.Test.YtaicdjhblbobbaaGreatPDeskFk
import Derived.Test.YtaicdjhblbobbaaGreatPDeskG
import Derived.Test.YtaicdjhblbobbaaGreatPPureB
import Derived.Test.YtaicdjhblbobbaaGreatPKCall
import Derived.Test.YtaicdjhblbobbaaGreatPDeskJ
import Derived.BigQuiet
import Derived.Deep.RegionHeld3
import Derived.Test.YtaicdjhblbobbaaGreatPKOuter
namespace Go.Proofs.YtaicdjhblbobbaaGreat
open Go.RowKit Go.Lib

set_option maxHeartbeats 4000000 in
set_option maxRecDepth 100000 in
theorem dTest_err {w : World} {db : Nat} {p e k f l x : Int} (hA : Calls Tryz.prog 139 #[dkPtr db, .int .i64 p, .int .i64 e, .int .i64 k, .int .i64 f, .int .i64 l, .int .i64 1] w fun r w' => r = .returned (.tuple #[zeroAV, .int .i64 x]) ∧ Below w.heap.size w w') (hx : x ≠ 0) :
    Calls Tryz.prog 102 #[dkPtr db, .int .i64 p, .int .i64 e, .int .i64 k, .int .i64 f, .int .i64 l] w fun r w' => r = .returned (.tuple #[.int .i64 0, .int .i64 x]) ∧ Below w.heap.size w w' := by
  have HA := Hid.mk hA
  have hx' : (x != 0) = true := by simpa using hx
  clear hA hx
  unfold dkPtr zeroAV at *
  go_enter Tryz.func102, Tryz.ntmps102
  go_wp2_with (go_at_call 139; refine HA.out.mono ?_; rintro r w1 ⟨rfl, hb1⟩; have hz1 := hb1.size; have HB1 := Hid.mk hb1; clear hb1)
  go_ret2
  exact ⟨rfl, HB1.out.trans (((Below.refl _ _).alloc (Nat.le_refl _) _).mono hz1)⟩

/-- The first that has one, or -1. -/
def firstB (c : Nat → Bool) : Int := ((List.range 6).find? c).elim (-1) fun q => (q : Int)
set_option maxHeartbeats 4000000 in
set_option maxRecDepth 100000 in
theorem dTest_ok {w : World} {db : Nat} {P : Nat → Prop} {d : DK} {ov qv : Value} (h : DV w db P d ov qv) {p e k f l : Int} {a : Ask} (hA : Calls Tryz.prog 139 #[dkPtr db, .int .i64 p, .int .i64 e, .int .i64 k, .int .i64 f, .int .i64 l, .int .i64 1] w fun r w' => r = .returned (.tuple #[dAskV a, .int .i64 0]) ∧ Below w.heap.size w w')
    (hf : a.file < 3) (hr : 0 ≤ a.f ∧ a.f ≤ a.t ∧ a.t ≤ 63) :
    Calls Tryz.prog 102 #[dkPtr db, .int .i64 p, .int .i64 e, .int .i64 k, .int .i64 f, .int .i64 l] w fun r w' => r = .returned (.tuple #[.int .i64 (firstB fun q => d.hold a q), .int .i64 0]) ∧ Below w.heap.size w w' := by
  have HA := Hid.mk hA
  have HH := Hid.mk (fun (W : World) (hW : Below w.heap.size w W) => dHolders_any (h.below hW) a hf hr)
  clear hA h hf hr
  unfold dkPtr dAskV at *
  have HF := Hid.mk (show (firstB fun q => d.hold a q) = ((List.range 6).find? fun q : Nat => d.hold a q).elim (-1) fun q => (q : Int) from rfl)
  generalize (firstB fun q => d.hold a q) = R at *
  generalize hc : (fun q : Nat => d.hold a q) = c at *
  clear hc
  unfold bs6 at *
  go_enter Tryz.func102, Tryz.ntmps102
  go_wp2_with (first
    | (go_at_call 139; refine HA.out.mono ?_; rintro r w1 ⟨rfl, hb1⟩; have hz1 := hb1.size; have HB1 := Hid.mk hb1; clear hb1)
    | (go_at_call 140; refine (HH.out _ ?_).mono ?_; exact HB1.out.trans (((Below.refl _ _).alloc (Nat.le_refl _) _).mono hz1); rintro r w2 ⟨rfl, hb2⟩; have hz2 := hb2.size; have HSX := Hid.mk (show Six (w2.alloc (.cells (bs6 c) 155)) w2.heap.size c from heap_alloc_new w2 _); have HB2 := Hid.mk hb2; clear hb2))
  unfold bs6 at HSX
  go_loop [17] (fun s17 => ∃ n : Nat, s17 = .int .i64 n ∧ n ≤ 6 ∧ Hid (∀ j : Nat, j < n → c j = false)) (fun s17 => 6 - (intOf s17).toNat)
  case atStart => exact ⟨0, rfl, Nat.zero_le _, fun j hj => absurd hj (Nat.not_lt_zero _)⟩
  case round =>
    obtain ⟨n, rfl, hn, HN⟩ := hrel
    have hz3 : w1.heap.size + 1 ≤ w2.heap.size := by have h9 := hz2; simp at h9; exact h9
    have HBF : Hid (Below w.heap.size w (w2.alloc (.cells #[.bool (c 0), .bool (c 1), .bool (c 2), .bool (c 3), .bool (c 4), .bool (c 5)] 155))) := by
      have b2 := (HB1.out.trans (((Below.refl _ _).alloc (Nat.le_refl _) _).mono hz1)).trans (HB2.out.mono (by simp; omega))
      exact b2.trans (((Below.refl _ _).alloc (Nat.le_refl _) _).mono (by omega))
    by_cases hlt : n < 6
    · have hlt' : (n : Int) < 6 := by omega
      have hcell := HSX.out.cell hlt
      cases hcn : c n
      · rw [hcn] at hcell
        have HCN := Hid.mk hcn
        clear hcn
        go_wp2
        go_round
        case rel =>
          refine ⟨n + 1, by go_num, by omega, fun j hj => ?_⟩
          by_cases e : j = n
          · subst e; exact HCN.out
          · exact HN.out j (by omega)
        case measure => simp [intOf]; omega
      · rw [hcn] at hcell
        have HCN := Hid.mk hcn
        clear hcn
        go_wp2
        go_ret2
        refine ⟨ret_val ?_, HBF.out⟩
        rw [HF.out, find_range_some (a := n) hlt HCN.out HN.out]
        rfl
    · obtain rfl : n = 6 := by omega
      go_wp2
      go_ret2
      refine ⟨ret_val ?_, HBF.out⟩
      rw [HF.out, find_range_none HN.out]
      rfl
end Go.Proofs.YtaicdjhblbobbaaGreat

/- Each call of the document's answer, over the model's state. -/
namespace Go.Proofs.YtaicdjhblbobbaaGreat
open Go.RowKit Go.Lib

/-- What a call that tells a number leaves. -/
def NumD (w w' : World) (db : Nat) (P : Nat → Prop) (r : Ending) (s' : DS) (e n : Int) (M : Int) : Prop := r = .returned (.tuple #[.int .i64 n, .int .i64 e]) ∧ (∃ d' ov' qv', DV w' db P d' ov' qv' ∧ Sim s' d' ∧ d'.n ≤ M) ∧ Upd P P w w'
theorem NumD.err {w w' : World} {db : Nat} {P : Nat → Prop} {d : DK} {ov qv : Value} {s : DS} (h : DV w db P d ov qv) (hsim : Sim s d) {M : Int} (hM : d.n ≤ M) {x : Int} {r : Ending} {n : Int} (hr : r = .returned (.tuple #[.int .i64 n, .int .i64 x])) (hb : Below w.heap.size w w') : NumD w w' db P r s x n M :=
  ⟨hr, ⟨d, ov, qv, h.below hb, hsim, hM⟩, Upd.of_below hb⟩
section
variable {w : World} {db : Nat} {P : Nat → Prop} {d : DK} {ov qv : Value} {s : DS} (h : DV w db P d ov qv) (hsim : Sim s d) (hbas : s.Bas) (hP : ∀ b, w.heap.size ≤ b → P b) (hN : s.N + 1 ≤ 10000000) (hM : d.n + 7 ≤ 100000000)
include h hsim hbas hP hN hM
theorem dKill_any (p : Int) :
    Calls Tryz.prog 103 #[dkPtr db, .int .i64 p] w fun r w' => DoneD w w' db P r (s.kill p).1 (s.kill p).2.e (s.kill p).2.d (d.n + 7) := by
  have hsm := hsim.sm hbas (by omega) (by omega)
  unfold DS.kill
  cases hl : liveB s.L p with
  | false =>
    rw [if_pos rfl]
    have hm : d.may p = 1 := by rw [hsim.may]; unfold DS.may; rw [if_pos hl]
    refine (dKill_may h hsm p hm).mono ?_
    rintro r w' ⟨hr, rfl⟩
    exact DoneD.err h hsim (by omega) hr (Below.refl _ _)
  | true =>
    rw [if_neg (by simp)]
    have hm : d.may p ≠ 1 := by
      rw [hsim.may]
      unfold DS.may
      rw [if_neg (by simp [hl])]
      split <;> decide
    have hp := mem_ps6.1 (live_mem hl)
    obtain ⟨pn, rfl⟩ : ∃ pn : Nat, p = pn := ⟨p.toNat, by omega⟩
    have hsim2 := hsim.gone hbas (p := pn)
    have hbas2 : (s.gone pn).Bas := hbas.gone pn hl
    have hq6 := ones_le hbas2.qn (fun a ha => live_mem (hbas2.q a ha).1.l)
    refine (dKill_go h hsm (p := pn) (by omega) hm hP (R := fun W r w' => DoneD W w' db P r (s.gone pn).settle.1 0 (s.gone pn).settle.2 (d.n + 7)) (fun W qv' hv hkp => ?_)).mono ?_
    · refine (dSettle_any hv hsim2 hbas2 (fun b hb => hP b (by have := hkp.size; omega)) (by show s.N ≤ _; omega) (by show d.n + _ ≤ _; omega)).mono ?_
      rintro r w' ⟨o', rfl, ho', ⟨d', qv2, a1, a2, a3⟩, hk⟩
      exact ⟨o', rfl, o', rfl, ho', ⟨d', ov, qv2, a1, a2, by have a4 : d'.n ≤ d.n + _ := a3; omega⟩, hk.upd h.pk h.po⟩
    · rintro r w' ⟨W, hkp, hd⟩
      exact hd.upd (hkp.upd h.pk h.po) (Int.le_refl _)
theorem dFork_any (p : Int) :
    Calls Tryz.prog 98 #[dkPtr db, .int .i64 p] w fun r w' => NumD w w' db P r (s.fork p).1 (s.fork p).2.e (s.fork p).2.n (d.n + 7) := by
  have hsm := hsim.sm hbas (by omega) (by omega)
  unfold DS.fork
  by_cases hm : s.may p = 0
  · rw [if_neg (fun e => e hm)]
    have hp := may_range hm
    obtain ⟨pn, rfl⟩ : ∃ pn : Nat, p = pn := ⟨p.toNat, by omega⟩
    refine (dFork_go h hsm (p := pn) (by omega) (by rw [hsim.may]; exact hm)).mono ?_
    rintro r w' (⟨hr, rfl, hall⟩ | ⟨c, hc, hA, hlow, hr, hv, hkp⟩)
    · rcases find_ps6 s.L with ⟨hn, _⟩ | ⟨c, hc, _, _, hA⟩
      · rw [hn]
        exact NumD.err h hsim (by omega) hr (Below.refl _ _)
      · have := hall c hc
        rw [hsim.A c hc] at this
        rw [this] at hA
        simp at hA
    · rcases find_ps6 s.L with ⟨_, hall⟩ | ⟨c2, hc2, hf, hlow2, hA2⟩
      · have := hall c hc
        rw [← hsim.A c hc, hA] at this
        cases this
      · have e : c2 = c := by
          rcases Nat.lt_trichotomy c2 c with g | g | g
          · have := hlow c2 g
            rw [hsim.A c2 hc2] at this
            rw [this] at hA2
            simp at hA2
          · exact g
          · have := hlow2 c g
            rw [← hsim.A c hc, hA] at this
            cases this
        subst e
        rw [hf]
        refine ⟨hr, ⟨_, ov, qv, hv, hsim.forked hbas (p := pn) (c := c2) (by omega), by show d.n ≤ _; omega⟩, Upd.of_kp hkp (fun b hb => by rw [List.mem_singleton] at hb; rw [hb]; exact h.pk)⟩
  · rw [if_pos hm]
    refine (dFork_may h hsm p (by rw [hsim.may]; exact hm)).mono ?_
    rintro r w' ⟨hr, rfl⟩
    rw [hsim.may] at hr
    exact NumD.err h hsim (by omega) hr (Below.refl _ _)
theorem dOpen_any (p f : Int) :
    Calls Tryz.prog 100 #[dkPtr db, .int .i64 p, .int .i64 f] w fun r w' => NumD w w' db P r (s.opn p f).1 (s.opn p f).2.e (s.opn p f).2.n (d.n + 7) := by
  have hsm := hsim.sm hbas (by omega) (by omega)
  unfold DS.opn
  by_cases hm : s.may p = 0
  · rw [if_neg (fun e => e hm)]
    have hp := may_range hm
    have hm2 : d.may p = 0 := by rw [hsim.may]; exact hm
    obtain ⟨pn, rfl⟩ : ∃ pn : Nat, p = pn := ⟨p.toNat, by omega⟩
    by_cases hf : 0 ≤ f ∧ f < 3
    · rw [if_neg (fun e => e hf)]
      have hle := hsim.least (p := pn) (by omega)
      cases hl : s.least? pn with
      | none =>
        rw [hl] at hle
        refine (dOpen_full h hsm pn f (by omega) hm2 hf (by rw [hle]; decide)).mono ?_
        rintro r w' ⟨hr, rfl⟩
        exact NumD.err h hsim (by omega) hr (Below.refl _ _)
      | some e =>
        rw [hl] at hle
        obtain ⟨fn, rfl⟩ : ∃ fn : Nat, f = fn := ⟨f.toNat, by omega⟩
        have he : 0 ≤ e ∧ e < 5 := by
          unfold DS.least? at hl
          exact mem_ds5.1 (List.mem_of_find?_eq_some hl)
        obtain ⟨en, rfl⟩ : ∃ en : Nat, e = en := ⟨e.toNat, by omega⟩
        refine (dOpen_ok h hsm hP (p := pn) (f := fn) (i := en) (by omega) (by omega) (by omega) hm2 hle).mono ?_
        rintro r w' ⟨hr, ⟨ov', hv⟩, hu⟩
        have hs2 := hsim.opened hbas (p := pn) (e := en) (f := fn)
        refine ⟨hr, ⟨_, ov', qv, hv, hs2, by show d.n ≤ _; omega⟩, hu⟩
    · rw [if_pos hf]
      refine (dOpen_file h hsm _ f hm2 hf).mono ?_
      rintro r w' ⟨hr, rfl⟩
      exact NumD.err h hsim (by omega) hr (Below.refl _ _)
  · rw [if_pos hm]
    refine (dOpen_may h hsm p f (by rw [hsim.may]; exact hm)).mono ?_
    rintro r w' ⟨hr, rfl⟩
    rw [hsim.may] at hr
    exact NumD.err h hsim (by omega) hr (Below.refl _ _)
theorem dDup_any (p e : Int) :
    Calls Tryz.prog 101 #[dkPtr db, .int .i64 p, .int .i64 e] w fun r w' => NumD w w' db P r (s.dup p e).1 (s.dup p e).2.e (s.dup p e).2.n (d.n + 7) := by
  have hsm := hsim.sm hbas (by omega) (by omega)
  have hfd := hsim.fd p e
  unfold DS.dup
  cases hf : s.find p e with
  | error x =>
    rw [hf] at hfd
    have hx : x ≠ 0 := DS.find_errD hf
    have h2 : (d.fd p e).2 = x := by rw [hfd]
    refine (dDup_fd h hsm p e (by rw [h2]; exact hx)).mono ?_
    rintro r w' ⟨hr, rfl⟩
    rw [h2] at hr
    exact NumD.err h hsim (by omega) hr (Below.refl _ _)
  | ok o =>
    rw [hf] at hfd
    have h1 : (d.fd p e).1 = (o : Int) := by rw [hfd]
    have h2 : (d.fd p e).2 = 0 := by rw [hfd]
    obtain ⟨hm, he0, he5, hF⟩ := DS.find_ok hf
    have ho := (hbas.f _ _ _ hF).2.2.2
    have hp := may_range hm
    obtain ⟨pn, rfl⟩ : ∃ pn : Nat, p = pn := ⟨p.toNat, by omega⟩
    have hle := hsim.least (p := pn) (by omega)
    cases hl : s.least? pn with
    | none =>
      rw [hl] at hle
      simp only
      refine (dDup_full h hsm (p := pn) (by omega) e h2 (by rw [hle]; decide)).mono ?_
      rintro r w' ⟨hr, rfl⟩
      exact NumD.err h hsim (by omega) hr (Below.refl _ _)
    | some c =>
      rw [hl] at hle
      simp only
      have hc : 0 ≤ c ∧ c < 5 := by
        unfold DS.least? at hl
        exact mem_ds5.1 (List.mem_of_find?_eq_some hl)
      obtain ⟨cn, rfl⟩ : ∃ cn : Nat, c = cn := ⟨c.toNat, by omega⟩
      refine (dDup_ok h hsm (p := pn) (by omega) e h2 h1 (by rw [hsim.N]; exact ho) hle (by omega)).mono ?_
      rintro r w' ⟨hr, hv, hkp⟩
      exact ⟨hr, ⟨_, ov, qv, hv, hsim.copied hbas hF, by show d.n ≤ _; omega⟩, Upd.of_kp hkp (fun b hb => by rw [List.mem_singleton] at hb; rw [hb]; exact h.pk)⟩
omit hP in
theorem dTest_any (p e k f l : Int) :
    Calls Tryz.prog 102 #[dkPtr db, .int .i64 p, .int .i64 e, .int .i64 k, .int .i64 f, .int .i64 l] w fun r w' => NumD w w' db P r s (s.test p e k f l).e (s.test p e k f l).n (d.n + 7) := by
  have hsm := hsim.sm hbas (by omega) (by omega)
  have hfd := hsim.fd p e
  unfold DS.test
  cases hf : s.find p e with
  | error x =>
    rw [hf] at hfd
    have hx : x ≠ 0 := DS.find_errD hf
    have h2 : (d.fd p e).2 = x := by rw [hfd]
    refine (dTest_err (by have := dAsked_fd h hsm p e k f l 1 (by rw [h2]; exact hx); rw [h2] at this; exact this) hx).mono ?_
    rintro r w' ⟨hr, hb⟩
    exact NumD.err h hsim (by omega) hr hb
  | ok o =>
    rw [hf] at hfd
    have h1 : (d.fd p e).1 = (o : Int) := by rw [hfd]
    have h2 : (d.fd p e).2 = 0 := by rw [hfd]
    obtain ⟨hm, _, _, hF⟩ := DS.find_ok hf
    have ho := (hbas.f _ _ _ hF).2.2.2
    by_cases hk : kindB k = false ∨ k = 0
    · simp only [hk, if_true]
      refine (dTest_err (dAsked_kind h hsm p e k f l 1 h2 (by unfold kindB at hk; simp at hk; omega)) (by decide)).mono ?_
      rintro r w' ⟨hr, hb⟩
      exact NumD.err h hsim (by omega) hr hb
    · have hk1 : kindB k = true := by
        cases e : kindB k with
        | true => rfl
        | false => exact absurd (Or.inl e) hk
      have hk0 : k ≠ 0 := fun e => hk (Or.inr e)
      simp only [hk1, hk0]
      have hk2 : 1 ≤ k ∧ k ≤ 2 := by unfold kindB at hk1; simp at hk1; omega
      by_cases hr : badS f l = true
      · simp only [hr, if_true]
        refine (dTest_err (dAsked_range h hsm p e k f l 1 h2 hk2 hr) (by decide)).mono ?_
        rintro r w' ⟨hr, hb⟩
        exact NumD.err h hsim (by omega) hr hb
      · simp only [hr]
        have ha := DS.AskOk.lock (k := k) hbas hf (by rw [hk1]; simp) hr
        refine (dTest_ok h (dAsked_ok h hsm p e k f l 1 h2 h1 (by rw [hsim.N]; exact ho) (hsim.file ho) hk2 (by simpa using hr)) ha.file (ha.rg rfl)).mono ?_
        rintro r w' ⟨hr, hb⟩
        have hfi := hsim.first hbas ha.file (ha.rg rfl)
        unfold firstB at hr
        rw [hfi] at hr
        unfold Ask.run at hr
        simp only at hr
        cases hh : holders (s.R (s.O o)) ⟨p, k, fromS f l, toS f l⟩ with
        | nil =>
          rw [hh] at hr
          exact NumD.err h hsim (by omega) hr hb
        | cons q t =>
          rw [hh] at hr
          exact NumD.err h hsim (by omega) hr hb
end
end Go.Proofs.YtaicdjhblbobbaaGreat

/- Contracts of the document's answer: Holds, New. -/
namespace Go.Proofs.YtaicdjhblbobbaaGreat
open Go.RowKit Go.Lib

def DK.hcond (d : DK) (f : Int) (t o : Nat) : Bool := d.held o && decide (d.file o = f) && decide (d.at o = (t : Int) + 1)
def DK.hpart (d : DK) (f : Int) (t n : Nat) : List Hd := ((List.range n).filter (d.hcond f t)).map fun o => ⟨d.kind o, d.sharers o⟩
def DK.hrows (d : DK) (f : Int) (m : Nat) : List Hd := (List.range m).flatMap fun t => d.hpart f t d.O.length
theorem DK.holds_rows (d : DK) (f : Int) : d.holds f = d.hrows f d.n.toNat := rfl
theorem DK.hrows_snoc (d : DK) (f : Int) (m : Nat) : d.hrows f (m + 1) = d.hrows f m ++ d.hpart f m d.O.length := by
  unfold DK.hrows
  rw [List.range_succ, List.flatMap_append]
  simp
theorem DK.hpart_snoc (d : DK) (f : Int) (t n : Nat) : d.hpart f t (n + 1) = d.hpart f t n ++ (if d.hcond f t n = true then [⟨d.kind n, d.sharers n⟩] else []) := by
  unfold DK.hpart
  rw [List.range_succ, List.filter_append, List.map_append]
  congr 1
  cases e : d.hcond f t n <;> simp [e]
theorem DK.hrows_le (d : DK) (f : Int) {m n : Nat} (h : m ≤ n) : (d.hrows f m).length ≤ (d.hrows f n).length := by
  obtain ⟨k, rfl⟩ : ∃ k, n = m + k := ⟨n - m, by omega⟩
  clear h
  induction k with
  | zero => exact Nat.le_refl _
  | succ k ih =>
    rw [show m + (k + 1) = (m + k) + 1 by omega, d.hrows_snoc, List.length_append]
    omega
theorem DK.hpart_le (d : DK) (f : Int) (t : Nat) {m n : Nat} (h : m ≤ n) : (d.hpart f t m).length ≤ (d.hpart f t n).length := by
  obtain ⟨k, rfl⟩ : ∃ k, n = m + k := ⟨n - m, by omega⟩
  clear h
  induction k with
  | zero => exact Nat.le_refl _
  | succ k ih =>
    rw [show m + (k + 1) = (m + k) + 1 by omega, d.hpart_snoc, List.length_append]
    omega
set_option maxHeartbeats 16000000 in
set_option maxRecDepth 100000 in
theorem dHolds_any {w : World} {db : Nat} {P : Nat → Prop} {d : DK} {ov qv : Value} (h : DV w db P d ov qv) (hsm : d.Sm) (f : Int) (hlen : (d.holds f).length ≤ 1000) :
    Calls Tryz.prog 93 #[dkPtr db, .int .i64 f] w fun r w' => ∃ v us, r = .returned v ∧ HoldsB w.heap.size w' v (d.holds f) us ∧ Below w.heap.size w w' := by
  rw [d.holds_rows] at *
  have hol := hsm.o
  have hn := hsm.n
  have HHD := Hid.mk (fun (W : World) (hW : Below w.heap.size w W) (o : Nat) (ho : o < d.O.length) => dHeld_any (h.below hW) hsm ho)
  have HSH := Hid.mk (fun (W : World) (hW : Below w.heap.size w W) (o : Nat) (ho : o < d.O.length) => dSharers_any (h.below hW) (o := o) (by omega))
  have HOC := Hid.mk (fun (W : World) (hW : Below w.heap.size w W) => (h.below hW).k.cO)
  have HOR := Hid.mk (fun (W : World) (hW : Below w.heap.size w W) => (h.below hW).o)
  have HCO : Hid (∀ (t o : Nat) (x : Og), d.O[o]? = some x → d.hcond f t o = (d.held o && decide (x.f = f) && decide (x.t = (t : Int) + 1)) ∧ d.kind o = x.k) := fun t o x hx => by
    refine ⟨?_, DK.kind_set hx⟩
    unfold DK.hcond
    rw [DK.file_set hx]
    unfold DK.at
    rw [hx]
    rfl
  have HRS := Hid.mk (fun m => d.hrows_snoc f m)
  have HPS := Hid.mk (fun t n => d.hpart_snoc f t n)
  have HRL : Hid (∀ (t o : Nat), t < d.n.toNat → o ≤ d.O.length → (d.hrows f t ++ d.hpart f t o).length ≤ 1000) := fun t o ht ho => by
    have h1 := d.hpart_le f t ho
    have h2 := d.hrows_le f (show t + 1 ≤ d.n.toNat by omega)
    rw [d.hrows_snoc, List.length_append] at h2
    rw [List.length_append]
    omega
  have HR0 : Hid (d.hrows f 0 = []) := rfl
  have HP0 : Hid (∀ t, d.hpart f t 0 = []) := fun t => rfl
  have hdw := h.k.lt
  obtain ⟨oa, oc, rfl⟩ := own_form h.o
  obtain ⟨N, hN⟩ : ∃ N : Nat, d.n = N := ⟨d.n.toNat, by omega⟩
  have hN8 : (N : Int) ≤ 100000000 := by omega
  have HNC : Hid (∀ (W : World), Below w.heap.size w W → W.cell? ⟨db, 1190, none⟩ = some (.int .i64 (N : Int))) := fun W hW => by rw [← hN]; exact (h.below hW).k.cN
  have hNn : d.n.toNat = N := by omega
  rw [hNn] at HRL ⊢
  clear h hsm hlen hn hN hNn
  unfold dkPtr at *
  generalize d.hrows f = RR at *
  generalize d.hpart f = PP at *
  generalize d.hcond f = HC at *
  generalize d.held = hdo at *
  generalize d.sharers = sh at *
  generalize d.kind = kn at *
  generalize hO : d.O = O at *
  clear hO
  go_enter Tryz.func93, Tryz.ntmps93
  go_wp2
  go_loopw [5, 6, 7, 8, 9] (fun s5 s6 _ _ _ wr => ∃ (t : Nat) (us : List Value), s6 = .int .i64 ((t : Int) + 1) ∧ t ≤ N ∧ Hid (HoldsB w.heap.size wr s5 (RR t) us) ∧ Hid (Below w.heap.size w wr)) (fun _ s6 _ _ _ _ => N + 1 - (intOf s6).toNat)
  case atStart => exact ⟨0, [], rfl, Nat.zero_le _, by rw [HR0.out]; exact HoldsB.nil _ _, Below.refl _ _⟩
  case round =>
    obtain ⟨t, us, rfl, ht, HU, HB⟩ := hrel
    obtain ⟨w0, hw0⟩ : ∃ w0, w0 = wr := ⟨_, rfl⟩
    subst hw0
    have cN := HNC.out w0 HB.out
    by_cases htN : t < N
    · have htN' : (t : Int) + 1 ≤ (N : Int) := by omega
      have htN2 : (t : Int) < (N : Int) := by omega
      go_wp2
      go_loopw [5, 7, 8, 9] (fun s5 s7 _ _ wr => ∃ (o : Nat) (us : List Value), s7 = .int .i64 o ∧ o ≤ O.length ∧ Hid (HoldsB w.heap.size wr s5 (RR t ++ PP t o) us) ∧ Hid (Below w.heap.size w wr)) (fun _ s7 _ _ _ => O.length - (intOf s7).toNat)
      case atStart => exact ⟨0, us, rfl, Nat.zero_le _, by rw [HP0.out, List.append_nil]; exact HU.out, HB.out⟩
      case round =>
        clear HU HB cN
        obtain ⟨o, us, rfl, ho, HU, HB⟩ := hrel
        have hsz : w.heap.size ≤ wr.heap.size := HB.out.size
        have cO := HOC.out wr HB.out
        by_cases hol2 : o < O.length
        · have hol3 : (o : Int) < (O.length : Int) := by omega
          obtain ⟨x, hx⟩ : ∃ x, O[o]? = some x := ⟨_, List.getElem?_eq_getElem hol2⟩
          have HHW := Hid.mk (HHD.out wr HB.out o hol2)
          obtain ⟨hc1, hc2⟩ := HCO.out t o x hx
          have HC1 := Hid.mk hc1
          have HC2 := Hid.mk hc2
          have hl2 : (RR t ++ PP t o).length ≤ 1000 := HRL.out t o htN (by omega)
          have HLL := Hid.mk (show RR t ++ PP t (o + 1) = (RR t ++ PP t o) ++ (if HC t o = true then [⟨kn o, sh o⟩] else []) by rw [HPS.out, List.append_assoc])
          generalize RR t ++ PP t o = LL at *
          obtain ⟨ua, uc, rfl⟩ := own_form HU.out.own
          obtain ⟨g0, hg0, _⟩ := ogAt (HOR.out wr HB.out) hx
          subst hg0
          have HX := Hid.mk hx
          clear hx hc1 hc2
          generalize hdo o = hd at *
          cases hd
          · have HS : Hid (RR t ++ PP t (o + 1) = LL) := by show _ = _; rw [HLL.out, HC1.out, if_neg (by simp), List.append_nil]
            go_wp2_with (go_at_call 134; refine HHW.out.mono ?_; rintro e w1 ⟨rfl, hb1⟩; have hz1 := hb1.size; have HB1 := Hid.mk hb1; clear hb1)
            go_roundw
            case rel => exact ⟨o + 1, us, by go_num, by omega, by rw [HS.out]; exact HU.out.below HB1.out, HB.out.trans (HB1.out.mono hsz)⟩
            case measure => simp [intOf]; omega
          · by_cases hfe : x.f = f
            · by_cases hte : x.t = (t : Int) + 1
              · have HS : Hid (RR t ++ PP t (o + 1) = LL ++ [⟨x.k, sh o⟩]) := by show _ = _; rw [HLL.out, HC1.out, if_pos (by simp [hfe, hte]), HC2.out]
                have HSW := Hid.mk (fun W hW => HSH.out W hW o hol2)
                have HFE := Hid.mk hfe
                have HTE := Hid.mk hte
                clear hfe hte
                go_wp2_with (first
                  | (go_at_call 134; refine HHW.out.mono ?_; rintro e w1 ⟨rfl, hb1⟩; have hz1 := hb1.size; have hbb1 := HB.out.trans (hb1.mono hsz); obtain ⟨g1, hg1, hgl, k0, k1, k2⟩ := ogAt (HOR.out w1 hbb1) HX.out; cases hg1; rw [HFE.out] at k0; rw [HTE.out] at k2; have cO1 := HOC.out w1 hbb1; have HB1 := Hid.mk hb1; have HBB1 := Hid.mk hbb1; clear hb1 hbb1)
                  | (go_at_call 135; refine (HSW.out w1 HBB1.out).mono ?_; rintro e w3 ⟨v3, rfl, ho3, hb3⟩; obtain ⟨a3, c3, rfl⟩ := own_form ho3; have hz3 := hb3.size; have hbb3 := HBB1.out.trans (hb3.mono (Nat.le_trans hsz hz1)); obtain ⟨g2, hg2, hgl2, q0, q1, q2⟩ := ogAt (HOR.out w3 hbb3) HX.out; cases hg2; have cO3 := HOC.out w3 hbb3; have HO3 := Hid.mk ho3; have HB3 := Hid.mk hb3; have HBB3 := Hid.mk hbb3; clear ho3 hb3 hbb3)
                  | (at_builtin; refine wpList_snocL rfl _ _ _ rfl Tryz.underlying47 Tryz.infoHold rfl (by decide) (by decide) rfl (own_below (own_below HU.out.own HB1.out) HB3.out) (by omega) (by omega) (cs := #[.int .i64 x.k, .slice a3 (sh o).length c3]) rfl (by simp) rfl (by simp [Value.oneCell']) ?_; intro v5 w5 ho5 hb5 hz5 hold5 _; have HO5 := Hid.mk ho5; have HB5 := Hid.mk hb5; have HOL := Hid.mk hold5; clear ho5 hb5 hold5))
                go_roundw
                case rel =>
                  refine ⟨o + 1, us ++ [.slice a3 (sh o).length c3], by go_num, by omega, ?_, HBB3.out.trans HB5.out⟩
                  rw [HS.out]
                  exact (HU.out.below HB1.out).snoc (d := ⟨x.k, sh o⟩) HB3.out HO3.out (Nat.le_trans hsz hz1) HO5.out HOL.out
                case measure => simp [intOf]; omega
              · have HS : Hid (RR t ++ PP t (o + 1) = LL) := by show _ = _; rw [HLL.out, HC1.out, if_neg (by simp [hte]), List.append_nil]
                have HFE := Hid.mk hfe
                have hte' : (x.t == (t : Int) + 1) = false := by simpa using hte
                clear hfe hte
                go_wp2_with (go_at_call 134; refine HHW.out.mono ?_; rintro e w1 ⟨rfl, hb1⟩; have hz1 := hb1.size; have hbb1 := HB.out.trans (hb1.mono hsz); obtain ⟨g1, hg1, hgl, k0, k1, k2⟩ := ogAt (HOR.out w1 hbb1) HX.out; cases hg1; rw [HFE.out] at k0; have cO1 := HOC.out w1 hbb1; have HB1 := Hid.mk hb1; clear hb1 hbb1)
                go_roundw
                case rel => exact ⟨o + 1, us, by go_num, by omega, by rw [HS.out]; exact HU.out.below HB1.out, HB.out.trans (HB1.out.mono hsz)⟩
                case measure => simp [intOf]; omega
            · have HS : Hid (RR t ++ PP t (o + 1) = LL) := by show _ = _; rw [HLL.out, HC1.out, if_neg (by simp [hfe]), List.append_nil]
              have hfe' : (x.f == f) = false := by simpa using hfe
              go_wp2_with (go_at_call 134; refine HHW.out.mono ?_; rintro e w1 ⟨rfl, hb1⟩; have hz1 := hb1.size; have hbb1 := HB.out.trans (hb1.mono hsz); obtain ⟨g1, hg1, hgl, k0, k1, k2⟩ := ogAt (HOR.out w1 hbb1) HX.out; cases hg1; have cO1 := HOC.out w1 hbb1; have HB1 := Hid.mk hb1; clear hb1 hbb1)
              go_roundw
              case rel => exact ⟨o + 1, us, by go_num, by omega, by rw [HS.out]; exact HU.out.below HB1.out, HB.out.trans (HB1.out.mono hsz)⟩
              case measure => simp [intOf]; omega
        · obtain rfl : o = O.length := by omega
          go_wp2
          go_roundw
          case rel => exact ⟨t + 1, us, by go_num, by omega, by rw [HRS.out]; exact HU.out, HB.out⟩
          case measure => simp [intOf]; omega
    · have HTN : Hid (t = N) := by show _ = _; omega
      have hno : ¬ ((t : Int) + 1 ≤ (N : Int)) := by omega
      have hno2 : ¬ ((t : Int) < (N : Int)) := by omega
      go_wp2
      go_ret
      exact ⟨_, rfl, ⟨us, by rw [← HTN.out]; exact HU.out⟩, HB.out⟩
end Go.Proofs.YtaicdjhblbobbaaGreat

/- The document's answer, as the statements' walk needs it. -/
namespace Go.Proofs.YtaicdjhblbobbaaGreat
open Go.RowKit Go.Lib

theorem DS.settle_N (s : DS) : s.settle.1.N = s.N := by
  refine DS.settleN_keeps (P := fun t => t.N = s.N) ?_ ?_ _ _ rfl
  · intro t i a ht _ _
    rw [DS.take_N]; exact ht
  · intro t i a ht _ _ _
    exact ht
theorem DS.ask_N (s : DS) (a : Ask) (w : Bool) : (s.ask a w).1.N = s.N := by
  rw [DS.ask_parts]
  (repeat' split) <;> first | rfl | (show (s.take a).1.settle.1.N = s.N; rw [DS.settle_N, DS.take_N])
theorem DS.step_N (s : DS) (c : Cl) : (s.step c).1.N ≤ s.N + 1 := by
  cases c with
  | fork p => simp only [DS.step, DS.fork]; (repeat' split) <;> simp
  | kill p =>
    simp only [DS.step, DS.kill]
    split
    · simp
    · show (s.gone p).settle.1.N ≤ _
      rw [DS.settle_N]; exact Nat.le_succ _
  | opn p f => simp only [DS.step, DS.opn]; (repeat' split) <;> simp
  | dup p d => simp only [DS.step, DS.dup]; (repeat' split) <;> simp
  | close p d =>
    simp only [DS.step, DS.close]
    split
    · simp
    · rename_i o _
      show (s.shut p d o).settle.1.N ≤ _
      rw [DS.settle_N]; exact Nat.le_succ _
  | lock p d k f l w =>
    simp only [DS.step, DS.lock]
    (repeat' split) <;> first | (simp; done) | (rw [DS.ask_N]; exact Nat.le_succ _)
  | test p d k f l => exact Nat.le_succ _
  | whole p d k w =>
    simp only [DS.step, DS.whole]
    (repeat' split) <;> first | (simp; done) | (rw [DS.ask_N]; exact Nat.le_succ _)
def Cl.dfn : Cl → Nat
  | .fork .. => 98
  | .kill .. => 103
  | .opn .. => 100
  | .dup .. => 101
  | .close .. => 105
  | .lock .. => 107
  | .test .. => 102
  | .whole .. => 106
def Cl.dargs (db : Nat) : Cl → Array Value
  | .fork p => #[dkPtr db, .int .i64 p]
  | .kill p => #[dkPtr db, .int .i64 p]
  | .opn p f => #[dkPtr db, .int .i64 p, .int .i64 f]
  | .dup p d => #[dkPtr db, .int .i64 p, .int .i64 d]
  | .close p d => #[dkPtr db, .int .i64 p, .int .i64 d]
  | .lock p d k f l w => #[dkPtr db, .int .i64 p, .int .i64 d, .int .i64 k, .int .i64 f, .int .i64 l, .bool w]
  | .test p d k f l => #[dkPtr db, .int .i64 p, .int .i64 d, .int .i64 k, .int .i64 f, .int .i64 l]
  | .whole p d k w => #[dkPtr db, .int .i64 p, .int .i64 d, .int .i64 k, .bool w]
section
variable {w : World} {db : Nat} {P : Nat → Prop} {M : Nat} {s : DS}
theorem drep.run {w' : World} {r : Ending} {s' : DS} {e : Int} {l : List Dn} {M' : Int} (hM' : M' ≤ (M : Int)) (hN : s'.N ≤ M) (h : DoneD w w' db (fun b => P b ∨ w.heap.size ≤ b) r s' e l M') :
    ∃ P' x, r = .returned (.tuple #[x, .int .i64 e]) ∧ Told w w' P' 57 2 x l.length (flatD l) ∧ drep w' db P' M s' ∧ Upd P P' w w' := by
  obtain ⟨o, h1, h2, ⟨d', ov', qv', h3, h4, h5⟩, h6⟩ := h
  refine ⟨after w w' P [o], o, h1, ⟨h2, fun b e2 hp => hp.2.2 o (by simp) e2⟩, DZ.after ⟨d', ov', qv', h3, h4, by omega⟩ (fun v hv b e2 => ?_) hN, upd_afterD h6 _⟩
  simp only [List.mem_cons, List.not_mem_nil, or_false] at hv
  subst hv
  obtain ⟨cur, hc⟩ := own_tag h2 e2
  exact ⟨cur, _, hc, by decide⟩
theorem drep.runN {w' : World} {r : Ending} {s' : DS} {e n : Int} {M' : Int} (hM' : M' ≤ (M : Int)) (hN : s'.N ≤ M) (h : NumD w w' db (fun b => P b ∨ w.heap.size ≤ b) r s' e n M') :
    ∃ P', r = .returned (.tuple #[.int .i64 n, .int .i64 e]) ∧ drep w' db P' M s' ∧ Upd P P' w w' := by
  obtain ⟨h1, ⟨d', ov', qv', h3, h4, h5⟩, h6⟩ := h
  exact ⟨after w w' P [], h1, DZ.after ⟨d', ov', qv', h3, h4, by omega⟩ (fun v hv => by cases hv) hN, upd_afterD h6 _⟩
/-- Each call answers as the model. -/
theorem dstep_num (h : drep w db P M s) (hi : s.Inv) (hM : M + 8 ≤ 10000000) (c : Cl) (hc : c.num = true) :
    Calls Tryz.prog c.dfn (c.dargs db) w fun r w' => ∃ P', r = .returned (.tuple #[.int .i64 (s.step c).2.n, .int .i64 (s.step c).2.e]) ∧ drep w' db P' (M + 7) (s.step c).1 ∧ Upd P P' w w' := by
  obtain ⟨hlt, hN, d, ov, qv, hv, hsim, hn⟩ := h
  have hv2 := hv.wide (Q := fun b => P b ∨ w.heap.size ≤ b) fun b hb => Or.inl hb
  have hP : ∀ b, w.heap.size ≤ b → (P b ∨ w.heap.size ≤ b) := fun b hb => Or.inr hb
  have hN2 := s.step_N c
  cases c with
  | fork p => exact (dFork_any hv2 hsim hi.toBas hP (by omega) (by omega) p).mono fun r w' hd => drep.runN (by omega) (by omega) hd
  | opn p f => exact (dOpen_any hv2 hsim hi.toBas hP (by omega) (by omega) p f).mono fun r w' hd => drep.runN (by omega) (by omega) hd
  | dup p e => exact (dDup_any hv2 hsim hi.toBas hP (by omega) (by omega) p e).mono fun r w' hd => drep.runN (by omega) (by omega) hd
  | test p e k f l => exact (dTest_any hv2 hsim hi.toBas (by omega) (by omega) p e k f l).mono fun r w' hd => drep.runN (by omega) (by omega) hd
  | kill p => cases hc
  | close p e => cases hc
  | lock p e k f l wt => cases hc
  | whole p e k wt => cases hc
theorem dstep_done (h : drep w db P M s) (hi : s.Inv) (hM : M + 8 ≤ 10000000) (c : Cl) (hc : c.num = false) :
    Calls Tryz.prog c.dfn (c.dargs db) w fun r w' => ∃ P' x, r = .returned (.tuple #[x, .int .i64 (s.step c).2.e]) ∧ Told w w' P' 57 2 x (s.step c).2.d.length (flatD (s.step c).2.d) ∧ drep w' db P' (M + 7) (s.step c).1 ∧ Upd P P' w w' := by
  obtain ⟨hlt, hN, d, ov, qv, hv, hsim, hn⟩ := h
  have hv2 := hv.wide (Q := fun b => P b ∨ w.heap.size ≤ b) fun b hb => Or.inl hb
  have hP : ∀ b, w.heap.size ≤ b → (P b ∨ w.heap.size ≤ b) := fun b hb => Or.inr hb
  have hN2 := s.step_N c
  cases c with
  | fork p => cases hc
  | opn p f => cases hc
  | dup p e => cases hc
  | test p e k f l => cases hc
  | kill p => exact (dKill_any hv2 hsim hi.toBas hP (by omega) (by omega) p).mono fun r w' hd => drep.run (by omega) (by omega) hd
  | close p e => exact (dClose_any hv2 hsim hi.toBas hP (by omega) (by omega) p e).mono fun r w' hd => drep.run (by omega) (by omega) hd
  | lock p e k f l wt => exact (dLock_any hv2 hsim hi.toBas hP (by omega) (by omega) p e k f l wt).mono fun r w' hd => drep.run (by omega) (by omega) hd
  | whole p e k wt => exact (dWhole_any hv2 hsim hi.toBas hP (by omega) (by omega) p e k wt).mono fun r w' hd => drep.run (by omega) (by omega) hd
theorem druns (h : drep w db P M s) (hi : s.Inv) (f : Int) :
    Calls Tryz.prog 91 #[dkPtr db, .int .i64 f] w fun r w' => ∃ v, r = .returned v ∧ w'.ownsRow w.heap.size 41 4 v (s.runs f).length (flatR (s.runs f)) ∧ Below w.heap.size w w' := by
  obtain ⟨hlt, hN, d, ov, qv, hv, hsim, hn⟩ := h
  rw [← hsim.runs hi.toBas f]
  exact dRuns_any hv f
theorem dholds (h : drep w db P M s) (hi : s.Inv) (hM : M + 8 ≤ 10000000) (f : Int) :
    Calls Tryz.prog 93 #[dkPtr db, .int .i64 f] w fun r w' => ∃ v us, r = .returned v ∧ HoldsB w.heap.size w' v (s.holds f) us ∧ Below w.heap.size w w' := by
  obtain ⟨hlt, hN, d, ov, qv, hv, hsim, hn⟩ := h
  rw [← hsim.holds hi.toBas f]
  refine dHolds_any hv (hsim.sm hi.toBas (by omega) (by omega)) f ?_
  rw [hsim.holds hi.toBas f]
  unfold DS.holds
  split
  · rw [List.length_map]
    have := hi.toBas.sm.wl f.toNat
    omega
  · simp
theorem dwaiting (h : drep w db P M s) (hi : s.Inv) (hM : M + 8 ≤ 10000000) :
    Calls Tryz.prog 97 #[dkPtr db] w fun r w' => ∃ v, r = .returned v ∧ w'.ownsRow w.heap.size 3 1 v s.waiting.length (ints s.waiting) ∧ Below w.heap.size w w' := by
  obtain ⟨hlt, hN, d, ov, qv, hv, hsim, hn⟩ := h
  have hw := dWaiting_any hv (hsim.sm hi.toBas (by omega) (by omega))
  rw [hsim.Q] at hw
  exact hw
theorem dnew (w : World) : Calls Tryz.prog 63 #[] w fun r w' => ∃ P', r = .returned (dkPtr w.heap.size) ∧ drep w' w.heap.size P' 0 DS.new ∧ Upd (fun _ => False) P' w w' := by
  refine (dNew_any w).mono ?_
  rintro r w' ⟨hr, hk, hb⟩
  have hz := hk.lt
  refine ⟨fun b => b = w.heap.size, hr, ⟨fun b e => by subst e; exact hz, Nat.le_refl _, _, .slice none 0 0, .slice none 0 0, ⟨hk, World.ownsRow_nil _ _ _ _, World.ownsRow_nil _ _ _ _, rfl, fun b e => (by cases e), fun b e => (by cases e)⟩, Sim.new, Int.le_refl _⟩, ⟨hb.os, hb.tape, hb.output, hb.size, fun k hk _ => hb.block k hk, fun k hk e => ?_⟩⟩
  omega
end
end Go.Proofs.YtaicdjhblbobbaaGreat

/- Small functions of the statements: number, pick, sameInts. -/
namespace Go.Proofs.YtaicdjhblbobbaaGreat
open Go.RowKit Go.Lib

set_option maxHeartbeats 4000000 in
set_option maxRecDepth 100000 in
theorem number_any (w : World) (e n : Int) (a : Option Addr) (c : Nat) :
    Calls Tryz.prog 99 #[.agg #[.int .i64 e, .int .i64 n, .slice a 0 c], .int .i64 n, .int .i64 e] w fun r w' => r = .returned (.bool true) ∧ Below w.heap.size w w' := by
  go_enter Tryz.func99, Tryz.ntmps99
  go_wp2
  go_ret
  exact ⟨rfl, (Below.refl _ _).alloc (Nat.le_refl _) _⟩
set_option maxHeartbeats 4000000 in
set_option maxRecDepth 100000 in
theorem sameInts_any {w : World} {ba bb : Nat} {va vb : Value} {l : List Int} (ha : w.ownsRow ba 3 1 va l.length (ints l)) (hb : w.ownsRow bb 3 1 vb l.length (ints l)) (hl : l.length ≤ 1000000000) :
    Calls Tryz.prog 94 #[va, vb] w fun r w' => r = .returned (.bool true) ∧ Below w.heap.size w w' := by
  obtain ⟨aa, ac, rfl⟩ := own_form ha
  obtain ⟨ab, bc, rfl⟩ := own_form hb
  have HA := Hid.mk ha
  have HB := Hid.mk hb
  clear ha hb
  go_enter Tryz.func94, Tryz.ntmps94
  go_wp2
  go_loopw [5] (fun s5 wr => ∃ n : Nat, s5 = .int .i64 n ∧ n ≤ l.length ∧ Hid (Below w.heap.size w wr)) (fun s5 _ => l.length - (intOf s5).toNat)
  case atStart => exact ⟨0, rfl, Nat.zero_le _, Below.refl _ _⟩
  case round =>
    obtain ⟨n, rfl, hn, HW⟩ := hrel
    by_cases hlt : n < l.length
    · have hlt' : (n : Int) < (l.length : Int) := by omega
      obtain ⟨x, hx⟩ : ∃ x, l[n]? = some x := ⟨_, List.getElem?_eq_getElem hlt⟩
      obtain ⟨g, rfl, _, hg, _, hc⟩ := own_some HA.out (by omega)
      obtain ⟨g2, rfl, _, hg2, _, hc2⟩ := own_some HB.out (by omega)
      have q1 := (HW.out.cell (p := ⟨g, n, none⟩) hg).trans ((hc n (by omega)).trans (ints_get hx))
      have q2 := (HW.out.cell (p := ⟨g2, n, none⟩) hg2).trans ((hc2 n (by omega)).trans (ints_get hx))
      clear hc hc2 hx
      go_wp2
      go_quiet (fail)
      go_wp2
      go_roundw
      case rel => exact ⟨n + 1, by go_num, by omega, Below.drewN HW.out _⟩
      case measure => simp [intOf]; omega
    · obtain rfl : n = l.length := by omega
      go_wp2
      go_ret
      exact ⟨rfl, HW.out⟩
end Go.Proofs.YtaicdjhblbobbaaGreat

/- Who owns which blocks: the statements' world, each Kernel, each Desk. -/
namespace Go.Proofs.YtaicdjhblbobbaaGreat
open Go.RowKit Go.Lib

structure Owns (w : World) (own : Nat → Nat → Prop) : Prop where
  lt : ∀ i b, own i b → b < w.heap.size
  dis : ∀ i j b, own i b → own j b → i = j
def updO (own : Nat → Nat → Prop) (i : Nat) (P : Nat → Prop) : Nat → Nat → Prop := fun j b => if j = i then P b else own j b
theorem updO_self (own : Nat → Nat → Prop) (i : Nat) (P : Nat → Prop) : updO own i P i = P := by funext b; simp [updO]
theorem updO_other (own : Nat → Nat → Prop) {i j : Nat} (P : Nat → Prop) (h : j ≠ i) : updO own i P j = own j := by funext b; simp [updO, h]
section
variable {w w' : World} {own : Nat → Nat → Prop} {i : Nat} {P' : Nat → Prop}
theorem Owns.upd (h : Owns w own) (hu : Upd (own i) P' w w') (hlt : ∀ b, P' b → b < w'.heap.size) : Owns w' (updO own i P') := by
  have key : ∀ j b, j ≠ i → own j b → P' b → False := fun j b hj ho hp => hj (h.dis j i b ho (hu.old b (h.lt j b ho) hp))
  refine ⟨fun j b hb => ?_, fun j k b hj hk => ?_⟩
  · unfold updO at hb
    split at hb
    · exact hlt b hb
    · exact Nat.lt_of_lt_of_le (h.lt j b hb) hu.size
  · unfold updO at hj hk
    split at hj
    · rename_i e1
      split at hk
      · rename_i e2; rw [e1, e2]
      · rename_i e2; exact (key k b e2 hk hj).elim
    · rename_i e1
      split at hk
      · exact (key j b e1 hj hk).elim
      · exact h.dis j k b hj hk
theorem Owns.other (h : Owns w own) (hu : Upd (own i) P' w w') {j b : Nat} (hj : j ≠ i) (hb : own j b) : w'.heap[b]? = w.heap[b]? :=
  hu.block b (h.lt j b hb) fun hp => hj (h.dis j i b hb hp)
/-- All that is owned by somebody. -/
def owned (own : Nat → Nat → Prop) (b : Nat) : Prop := ∃ i, own i b
theorem Owns.all (_h : Owns w own) (hu : Upd (own i) P' w w') : Upd (owned own) (owned (updO own i P')) w w' :=
  ⟨hu.os, hu.tape, hu.output, hu.size, fun k hk hn => hu.block k hk fun hp => hn ⟨i, hp⟩, fun k hk hp => by
    obtain ⟨j, hj⟩ := hp
    unfold updO at hj
    split at hj
    · exact ⟨i, hu.old k hk hj⟩
    · exact ⟨j, hj⟩⟩
theorem Owns.below (h : Owns w own) (hs : w.heap.size ≤ w'.heap.size) : Owns w' own := ⟨fun i b hb => Nat.lt_of_lt_of_le (h.lt i b hb) hs, h.dis⟩
end
/-- The statements' world: nothing in it greater than N; each Kernel and each Desk in its state. -/
structure PI (w : World) (wb : Nat) (own : Nat → Nat → Prop) (N M : Nat) (xv yv : Value) (ks ds : List Nat) (sk sd : List DS) : Prop where
  o : Owns w own
  b : ∃ iv dv rv fv n ei ed er ef, WB w wb (own 0) N ks ds xv yv iv dv rv fv n ei ed er ef
  lk : ks.length = sk.length
  ld : ds.length = sd.length
  le : sk.length = sd.length ∧ sk.length ≤ 3
  k : ∀ (i kb : Nat) s, ks[i]? = some kb → sk[i]? = some s → rep w kb (own (2 * i + 1)) s
  d : ∀ (i db : Nat) s, ds[i]? = some db → sd[i]? = some s → drep w db (own (2 * i + 2)) M s
section
variable {w w' : World} {wb : Nat} {own : Nat → Nat → Prop} {N M : Nat} {xv yv : Value} {ks ds : List Nat} {sk sd : List DS}
theorem rep.frame {kb : Nat} {P : Nat → Prop} {s : DS} (h : rep w kb P s) (hs : w.heap.size ≤ w'.heap.size) (hb : ∀ b, P b → w'.heap[b]? = w.heap[b]?) : rep w' kb P s := ⟨h.1, fun b hp => Nat.lt_of_lt_of_le (h.2.1 b hp) hs, by
    obtain ⟨tb, mb, ι, rv, wv, qv, hk⟩ := h.2.2
    exact ⟨tb, mb, ι, rv, wv, qv, hk.frame hb⟩⟩
/-- Memory that nobody owns is nothing to it. -/
theorem PI.frame (h : PI w wb own N M xv yv ks ds sk sd) (hs : w.heap.size ≤ w'.heap.size) (hb : ∀ b, owned own b → w'.heap[b]? = w.heap[b]?) : PI w' wb own N M xv yv ks ds sk sd := by
  obtain ⟨iv, dv, rv, fv, n, ei, ed, er, ef, hw⟩ := h.b
  exact ⟨h.o.below hs, ⟨iv, dv, rv, fv, n, ei, ed, er, ef, hw.frame fun b hp _ => ⟨hb b ⟨0, hp⟩, hp⟩⟩, h.lk, h.ld, h.le, fun i kb s h1 h2 => (h.k i kb s h1 h2).frame hs fun b hp => hb b ⟨_, hp⟩, fun i db s h1 h2 => (h.d i db s h1 h2).frame hs fun b hp => hb b ⟨_, hp⟩⟩
theorem PI.below (h : PI w wb own N M xv yv ks ds sk sd) (hb : Below w.heap.size w w') : PI w' wb own N M xv yv ks ds sk sd := h.frame hb.size fun b hp => by
  obtain ⟨i, hi⟩ := hp
  exact hb.block b (h.o.lt i b hi)
theorem PI.more {N' : Nat} (h : PI w wb own N M xv yv ks ds sk sd) (hm : N ≤ N') : PI w wb own N' M xv yv ks ds sk sd := by
  obtain ⟨iv, dv, rv, fv, n, ei, ed, er, ef, hw⟩ := h.b
  exact ⟨h.o, ⟨iv, dv, rv, fv, n, ei, ed, er, ef, hw.blk, hw.x, hw.y, hw.i, hw.d, hw.r, hw.f, hw.pw, hw.px, hw.py, ⟨hw.n0.1, by have := hw.n0.2; omega⟩, Nat.le_trans hw.li hm, Nat.le_trans hw.ld hm, Nat.le_trans hw.lr hm, Nat.le_trans hw.lf hm⟩, h.lk, h.ld, h.le, h.k, h.d⟩
theorem PI.moreD {M' : Nat} (h : PI w wb own N M xv yv ks ds sk sd) (hm : M ≤ M') : PI w wb own N M' xv yv ks ds sk sd := ⟨h.o, h.b, h.lk, h.ld, h.le, h.k, fun i db s h1 h2 => (h.d i db s h1 h2).more hm⟩
/-- A Kernel's call. -/
theorem PI.kern (h : PI w wb own N M xv yv ks ds sk sd) {i kb : Nat} {s : DS} {P' : Nat → Prop} (hk : ks[i]? = some kb) (hu : Upd (own (2 * i + 1)) P' w w') (hr : rep w' kb P' s) : PI w' wb (updO own (2 * i + 1) P') N M xv yv ks ds (sk.set i s) sd := by
  obtain ⟨iv, dv, rv, fv, n, ei, ed, er, ef, hw⟩ := h.b
  refine ⟨h.o.upd hu hr.2.1, ⟨iv, dv, rv, fv, n, ei, ed, er, ef, ?_⟩, by rw [List.length_set]; exact h.lk, h.ld, by rw [List.length_set]; exact h.le, fun j kb2 s2 h1 h2 => ?_, fun j db s2 h1 h2 => ?_⟩
  · rw [updO_other _ _ (by omega)]
    exact hw.frame fun b hp _ => ⟨h.o.other hu (by omega) hp, hp⟩
  · rw [List.getElem?_set] at h2
    split at h2
    · rename_i e
      subst e
      split at h2
      · cases h2
        rw [hk] at h1
        cases h1
        rw [updO_self]; exact hr
      · cases h2
    · rename_i e
      rw [updO_other _ _ (by omega)]
      exact (h.k j kb2 s2 h1 h2).frame hu.size fun b hp => h.o.other hu (by omega) hp
  · rw [updO_other _ _ (by omega)]
    exact (h.d j db s2 h1 h2).frame hu.size fun b hp => h.o.other hu (by omega) hp
/-- A Desk's call. -/
theorem PI.desk (h : PI w wb own N M xv yv ks ds sk sd) {i db : Nat} {s : DS} {P' : Nat → Prop} (hk : ds[i]? = some db) (hu : Upd (own (2 * i + 2)) P' w w') (hr : drep w' db P' M s) : PI w' wb (updO own (2 * i + 2) P') N M xv yv ks ds sk (sd.set i s) := by
  obtain ⟨iv, dv, rv, fv, n, ei, ed, er, ef, hw⟩ := h.b
  refine ⟨h.o.upd hu hr.1, ⟨iv, dv, rv, fv, n, ei, ed, er, ef, ?_⟩, h.lk, by rw [List.length_set]; exact h.ld, by rw [List.length_set]; exact h.le, fun j kb2 s2 h1 h2 => ?_, fun j db2 s2 h1 h2 => ?_⟩
  · rw [updO_other _ _ (by omega)]
    exact hw.frame fun b hp _ => ⟨h.o.other hu (by omega) hp, hp⟩
  · rw [updO_other _ _ (by omega)]
    exact (h.k j kb2 s2 h1 h2).frame hu.size fun b hp => h.o.other hu (by omega) hp
  · rw [List.getElem?_set] at h2
    split at h2
    · rename_i e
      subst e
      split at h2
      · cases h2
        rw [hk] at h1
        cases h1
        rw [updO_self]; exact hr
      · cases h2
    · rename_i e
      rw [updO_other _ _ (by omega)]
      exact (h.d j db2 s2 h1 h2).frame hu.size fun b hp => h.o.other hu (by omega) hp
/-- The book's call. -/
theorem PI.book (h : PI w wb own N M xv yv ks ds sk sd) {N' : Nat} (_hN : N ≤ N') {P' : Nat → Prop} (hu : Upd (own 0) P' w w') (hlt : ∀ b, P' b → b < w'.heap.size) (hb : ∃ iv dv rv fv n ei ed er ef, WB w' wb P' N' ks ds xv yv iv dv rv fv n ei ed er ef) : PI w' wb (updO own 0 P') N' M xv yv ks ds sk sd := by
  obtain ⟨iv, dv, rv, fv, n, ei, ed, er, ef, hw⟩ := hb
  refine ⟨h.o.upd hu hlt, ⟨iv, dv, rv, fv, n, ei, ed, er, ef, by rw [updO_self]; exact hw⟩, h.lk, h.ld, h.le, fun j kb2 s2 h1 h2 => ?_, fun j db2 s2 h1 h2 => ?_⟩
  · rw [updO_other _ _ (by omega)]
    exact (h.k j kb2 s2 h1 h2).frame hu.size fun b hp => h.o.other hu (by omega) hp
  · rw [updO_other _ _ (by omega)]
    exact ((h.d j db2 s2 h1 h2).frame hu.size fun b hp => h.o.other hu (by omega) hp)
end
end Go.Proofs.YtaicdjhblbobbaaGreat

/- The statements' world takes a reply that tells who waits no more. -/
namespace Go.Proofs.YtaicdjhblbobbaaGreat
open Go.RowKit Go.Lib

theorem dn_at {w : World} {base : Nat} {a : Option Addr} {c n : Nat} {l : List Dn} {x : Dn} (h : w.ownsRow base 57 2 (.slice a l.length c) l.length (flatD l)) (hx : l[n]? = some x) :
    ∃ g, a = some ⟨g, 0, none⟩ ∧ g < w.heap.size ∧ w.cell? ⟨g, n * 2, none⟩ = some (.int .i64 x.p) ∧ w.cell? ⟨g, n * 2 + 1, none⟩ = some (.int .i64 x.e) := by
  have hn : n < l.length := (List.getElem?_eq_some_iff.1 hx).1
  obtain ⟨g, rfl, _, hg, _, hc⟩ := own_some h (by omega)
  refine ⟨g, rfl, hg, ?_, ?_⟩ <;> (rw [hc _ (by omega)]; unfold flatD)
  · exact flat_get Dn.cells 2 (fun _ => rfl) l n 0 x hx (by omega)
  · exact flat_get Dn.cells 2 (fun _ => rfl) l n 1 x hx (by omega)
set_option maxHeartbeats 8000000 in
set_option maxRecDepth 100000 in
theorem wDone {w : World} {wb : Nat} {P : Nat → Prop} {N : Nat} {ks ds : List Nat} {xv yv iv dv rv fv : Value} {n : Int} {ei ed er ef : List En} (h : WB w wb P N ks ds xv yv iv dv rv fv n ei ed er ef) (hN : N ≤ 1000000000) {bv bx : Nat} {v x : Value} {l : List Dn} {e : Int} (hv : w.ownsRow bv 57 2 v l.length (flatD l)) (hx : w.ownsRow bx 57 2 x l.length (flatD l)) (hl : l.length ≤ 1000000) (hfar : ∀ b, v.ownBlock = some b → ¬ P b) (hlt : ∀ b, P b → b < w.heap.size) :
    Calls Tryz.prog 104 #[.pointer (some ⟨wb, 0, none⟩), .agg #[.int .i64 e, .int .i64 0, v], x, .int .i64 e] w fun r w' => r = .returned (.bool true) ∧ ∃ W, Below w.heap.size w W ∧ BkUpd W w' wb P v (N + 2) ks ds xv yv := by
  obtain ⟨va, vc, rfl⟩ := own_form hv
  obtain ⟨xa, xc, rfl⟩ := own_form hx
  have HV := Hid.mk hv
  have HX := Hid.mk hx
  have hwb := h.lt
  have HBD := Hid.mk (fun (W : World) (hW : Below w.heap.size w W) => bD (h.frame (w' := W) (P' := P) fun b hp hb => ⟨hW.block b hb, hp⟩) hN (own_below hv hW) hl hfar)
  have HNP : Hid (¬ (P w.heap.size ∨ Value.ownBlock (.slice va l.length vc) = some w.heap.size)) := by
    rintro (h1 | h1)
    · exact absurd (hlt _ h1) (Nat.lt_irrefl _)
    · exact absurd (hv.lt _ h1).2 (Nat.lt_irrefl _)
  clear h hv hx hfar hlt
  have HBX := Hid.mk (heap_alloc_new w (.cells #[.int .i64 e, .int .i64 0, .slice va l.length vc] 34))
  go_enter Tryz.func104, Tryz.ntmps104
  go_wp2
  go_loopw [9, 10] (fun s9 s10 wr => ∃ i : Nat, s9 = .bool true ∧ s10 = .int .i64 i ∧ i ≤ l.length ∧ Hid (Below w.heap.size w wr) ∧ Hid (wr.heap[w.heap.size]? = some (.cells #[.int .i64 e, .int .i64 0, .slice va l.length vc] 34 (0, 0)))) (fun _ s10 _ => l.length - (intOf s10).toNat)
  case atStart => exact ⟨0, by simp, rfl, Nat.zero_le _, (Below.refl _ _).alloc (Nat.le_refl _) _, HBX.out⟩
  case round =>
    obtain ⟨i, rfl, rfl, hi, HB, HBX⟩ := hrel
    have hbx := HBX.out
    have hsz := HB.out.size
    have hwl : w.heap.size < wr.heap.size := (Array.getElem?_eq_some_iff.1 hbx).1
    have b2 : wr.cell? ⟨w.heap.size, 2, none⟩ = some (.slice va l.length vc) := by simp only [World.cell?, hbx]; rfl
    clear hbx
    by_cases hlt : i < l.length
    · have hlt' : (i : Int) < (l.length : Int) := by omega
      obtain ⟨d, hd⟩ : ∃ d, l[i]? = some d := ⟨_, List.getElem?_eq_getElem hlt⟩
      obtain ⟨g, rfl, hg, q0, q1⟩ := dn_at (own_below HV.out HB.out) hd
      obtain ⟨g2, rfl, hg2, p0, p1⟩ := dn_at (own_below HX.out HB.out) hd
      go_wp2
      go_quiet (fail)
      go_wp2
      go_roundw
      case rel => exact ⟨i + 1, by simp, by go_num, by omega, Below.drewN HB.out _, HBX.out⟩
      case measure => simp [intOf]; omega
    · have HIL : Hid (i = l.length) := by show _ = _; omega
      have hno : ¬ ((i : Int) < (l.length : Int)) := by omega
      have hwbr : wb < wr.heap.size := by omega
      have HCB := Hid.mk (HBD.out wr.drew (Below.drewN HB.out 1))
      go_wp2
      go_region_held3 (fun u => u.cell? ⟨w.heap.size, 2, none⟩ = some (.slice va l.length vc)) (simp [go_sem, *])
        (first
          | (go_at_call 143; refine HCB.out.mono ?_; rintro r w2 ⟨rfl, hbk⟩; have k2 : w2.cell? ⟨w.heap.size, 2, none⟩ = some (.slice va l.length vc) := (by obtain ⟨P', _, _, hu⟩ := hbk; have hh := (hu.block w.heap.size hwl HNP.out).trans HBX.out; simp only [World.cell?, hh]; rfl); have HBK := Hid.mk hbk; clear hbk))
      go_wp2
      go_ret
      exact ⟨rfl, wr.drew, Below.drewN HB.out 1, HBK.out⟩
end Go.Proofs.YtaicdjhblbobbaaGreat

/- One step of the statements on one Kernel and its Desk: what each call leaves of the whole. -/
namespace Go.Proofs.YtaicdjhblbobbaaGreat
open Go.RowKit Go.Lib

/-- Which blocks below B turned. -/
structure UB (B : Nat) (Q Q' : Nat → Prop) (w w' : World) : Prop where
  os : w'.os = w.os
  tape : w'.tape = w.tape
  output : w'.output = w.output
  size : w.heap.size ≤ w'.heap.size
  block : ∀ k, k < B → ¬ Q k → w'.heap[k]? = w.heap[k]?
  old : ∀ k, k < B → Q' k → Q k
theorem UB.refl (B : Nat) (Q : Nat → Prop) (w : World) : UB B Q Q w w := ⟨rfl, rfl, rfl, Nat.le_refl _, fun _ _ _ => rfl, fun _ _ h => h⟩
theorem UB.trans {B : Nat} {Q Q' Q'' : Nat → Prop} {a b c : World} (h : UB B Q Q' a b) (k : UB B Q' Q'' b c) : UB B Q Q'' a c :=
  ⟨k.os.trans h.os, k.tape.trans h.tape, k.output.trans h.output, Nat.le_trans h.size k.size, fun i hi hn => (k.block i hi (fun hp => hn (h.old i hi hp))).trans (h.block i hi hn), fun i hi hp => h.old i hi (k.old i hi hp)⟩
theorem UB.of_upd {B : Nat} {Q Q' : Nat → Prop} {w w' : World} (h : Upd Q Q' w w') (hB : B ≤ w.heap.size) : UB B Q Q' w w' := ⟨h.os, h.tape, h.output, h.size, fun k hk hn => h.block k (by omega) hn, fun k hk hp => h.old k (by omega) hp⟩
theorem UB.of_below {B n : Nat} {Q : Nat → Prop} {w w' : World} (h : Below n w w') (hB : B ≤ n) : UB B Q Q w w' := ⟨h.os, h.tape, h.output, h.size, fun k hk _ => h.block k (by omega), fun _ _ h => h⟩
section
variable {w w' : World} {wb : Nat} {own : Nat → Nat → Prop} {N M : Nat} {xv yv : Value} {ks ds : List Nat} {sk sd : List DS} {i kb db : Nat} {s : DS}
/-- Memory that nobody owns becomes the book's. -/
theorem PI.adopt (h : PI w wb own N M xv yv ks ds sk sd) {v : Value} (hv : ∀ b, v.ownBlock = some b → b < w.heap.size ∧ ¬ owned own b) : PI w wb (updO own 0 (fun b => own 0 b ∨ v.ownBlock = some b)) N M xv yv ks ds sk sd := by
  obtain ⟨iv, dv, rv, fv, n, ei, ed, er, ef, hw⟩ := h.b
  refine ⟨⟨fun j b hb => ?_, fun j k b hj hk => ?_⟩, ⟨iv, dv, rv, fv, n, ei, ed, er, ef, by rw [updO_self]; exact hw.frame fun b hp _ => ⟨rfl, Or.inl hp⟩⟩, h.lk, h.ld, h.le, fun j kb2 s2 h1 h2 => ?_, fun j db2 s2 h1 h2 => ?_⟩
  · unfold updO at hb
    split at hb
    · rcases hb with hb | hb
      · exact h.o.lt 0 b hb
      · exact (hv b hb).1
    · exact h.o.lt j b hb
  · have key : ∀ j, (updO own 0 (fun b => own 0 b ∨ v.ownBlock = some b) j b) → own j b ∨ (j = 0 ∧ v.ownBlock = some b) := fun j hj => by
      unfold updO at hj
      split at hj
      · rename_i e
        subst e
        rcases hj with hj | hj
        · exact Or.inl hj
        · exact Or.inr ⟨rfl, hj⟩
      · exact Or.inl hj
    rcases key j hj with h1 | ⟨rfl, h1⟩
    · rcases key k hk with h2 | ⟨rfl, h2⟩
      · exact h.o.dis j k b h1 h2
      · exact absurd ⟨j, h1⟩ (hv b h2).2
    · rcases key k hk with h2 | ⟨rfl, h2⟩
      · exact absurd ⟨k, h2⟩ (hv b h1).2
      · rfl
  · rw [updO_other _ _ (by omega)]; exact h.k j kb2 s2 h1 h2
  · rw [updO_other _ _ (by omega)]; exact h.d j db2 s2 h1 h2
theorem PI.inv (h : PI w wb own N M xv yv ks ds sk sd) (hk : ks[i]? = some kb) (hs : sk[i]? = some s) : s.Inv := (h.k i kb s hk hs).1
/-- The document's call that tells a number. -/
theorem PI.dnum (h : PI w wb own N M xv yv ks ds sk sd) (hi : s.Inv) (hN : M + 8 ≤ 10000000) (hd : ds[i]? = some db) (hs : sd[i]? = some s) {W : World} (hb : Below w.heap.size w W) (c : Cl) (hc : c.num = true) :
    Calls Tryz.prog c.dfn (c.dargs db) W fun r w' => r = .returned (.tuple #[.int .i64 (s.step c).2.n, .int .i64 (s.step c).2.e]) ∧ ∃ own', PI w' wb own' N (M + 7) xv yv ks ds sk (sd.set i (s.step c).1) ∧ UB w.heap.size (owned own) (owned own') w w' ∧ Upd (owned own) (owned own') W w' := by
  have hp := h.below hb
  refine (dstep_num (hp.d i db s hd hs) hi hN c hc).mono ?_
  rintro r w' ⟨P', hr, hdr, hu⟩
  have hall := hp.o.all hu
  exact ⟨hr, _, (hp.moreD (by omega)).desk hd hu hdr, (UB.of_below hb (Nat.le_refl _)).trans (UB.of_upd hall hb.size), hall⟩
theorem PI.ddone (h : PI w wb own N M xv yv ks ds sk sd) (hi : s.Inv) (hN : M + 8 ≤ 10000000) (hd : ds[i]? = some db) (hs : sd[i]? = some s) {W : World} (hb : Below w.heap.size w W) (c : Cl) (hc : c.num = false) :
    Calls Tryz.prog c.dfn (c.dargs db) W fun r w' => ∃ x own', r = .returned (.tuple #[x, .int .i64 (s.step c).2.e]) ∧ PI w' wb own' N (M + 7) xv yv ks ds sk (sd.set i (s.step c).1) ∧ UB w.heap.size (owned own) (owned own') w w' ∧ Upd (owned own) (owned own') W w' ∧ w'.ownsRow W.heap.size 57 2 x (s.step c).2.d.length (flatD (s.step c).2.d) ∧ ∀ b, x.ownBlock = some b → ¬ owned own' b := by
  have hp := h.below hb
  refine (dstep_done (hp.d i db s hd hs) hi hN c hc).mono ?_
  rintro r w' ⟨P', x, hr, ht, hdr, hu⟩
  have hall := hp.o.all hu
  refine ⟨x, _, hr, (hp.moreD (by omega)).desk hd hu hdr, (UB.of_below hb (Nat.le_refl _)).trans (UB.of_upd hall hb.size), hall, ht.own, fun b e ho => ?_⟩
  obtain ⟨j, hj⟩ := ho
  unfold updO at hj
  split at hj
  · exact ht.far b e hj
  · have h1 := hp.o.lt j b hj
    have h2 := (ht.own.lt b e).1
    omega
/-- The Kernel's call. -/
theorem PI.kcall (h : PI w wb own N M xv yv ks ds sk sd) (hk : ks[i]? = some kb) (hs : sk[i]? = some s) (c : Cl) (hc : c.rng) :
    Calls Tryz.prog c.fn (c.args kb) w fun r w' => ∃ v own', r = .returned (rpV (s.step c).2 v) ∧ PI w' wb own' N M xv yv ks ds (sk.set i (s.step c).1) sd ∧ Upd (owned own) (owned own') w w' ∧ w'.ownsRow w.heap.size 57 2 v (s.step c).2.d.length (flatD (s.step c).2.d) ∧ ∀ b, v.ownBlock = some b → ¬ owned own' b := by
  refine (face.step c hc (h.k i kb s hk hs)).mono ?_
  rintro r w' ⟨P', v, hr, ht, hrep, hu⟩
  refine ⟨v, _, hr, h.kern hk hu hrep, h.o.all hu, ht.own, fun b e ho => ?_⟩
  obtain ⟨j, hj⟩ := ho
  unfold updO at hj
  split at hj
  · exact ht.far b e hj
  · have h1 := h.o.lt j b hj
    have h2 := (ht.own.lt b e).1
    omega
/-- The book takes a list that nobody owns. -/
theorem PI.take (h : PI w wb own N M xv yv ks ds sk sd) {B : Nat} (hB : B ≤ w.heap.size) {v : Value} (hv : ∀ b, v.ownBlock = some b → B ≤ b ∧ b < w.heap.size ∧ ¬ owned own b) {W w' : World} (hb : Below w.heap.size w W) {N' : Nat} (hN : N ≤ N') (hbk : BkUpd W w' wb (own 0) v N' ks ds xv yv) : ∃ own', PI w' wb own' N' M xv yv ks ds sk sd ∧ UB B (owned own) (owned own') w w' := by
  obtain ⟨P', hw, hlt, hu⟩ := hbk
  have h2 := (h.adopt fun b e => (hv b e).2).below hb
  have hu2 : Upd (updO own 0 (fun b => own 0 b ∨ v.ownBlock = some b) 0) P' W w' := by rw [updO_self]; exact hu
  refine ⟨_, h2.book hN hu2 hlt hw, ?_⟩
  have hall := h2.o.all hu2
  refine ⟨hall.os.trans hb.os, hall.tape.trans hb.tape, hall.output.trans hb.output, Nat.le_trans hb.size hall.size, fun k hk hn => (hall.block k (by have := hb.size; omega) fun ho => ?_).trans (hb.block k (by omega)), fun k hk ho => ?_⟩
  · obtain ⟨j, hj⟩ := ho
    unfold updO at hj
    split at hj
    · rcases hj with hj | hj
      · exact hn ⟨0, hj⟩
      · have := (hv k hj).1; omega
    · exact hn ⟨j, hj⟩
  · obtain ⟨j, hj⟩ := hall.old k (by have := hb.size; omega) ho
    unfold updO at hj
    split at hj
    · rcases hj with hj | hj
      · exact ⟨0, hj⟩
      · have := (hv k hj).1; omega
    · exact ⟨j, hj⟩
end
end Go.Proofs.YtaicdjhblbobbaaGreat
