/- Contract of the Kernel's give: one has its lock. -/
import Derived.Test.YtaicdjhblbobbabGreatGWays
import Derived.Test.YtaicdjhblbobbabGreatGPureB
import Derived.Deep.RegionWith
import Derived.Deep.RegionHeld3
namespace Go.Proofs.YtaicdjhblbobbabGreat
open Go.RowKit Go.Lib

theorem Kp.of_setCell {bs : List Nat} {w w1 : World} (h : Below w.heap.size w w1) {a : Addr} (ha : a.block ∈ bs) (v : Value) : Kp bs w (w1.setCell a v) := (Kp.below h).trans (Kp.setCell ha)

set_option maxHeartbeats 8000000 in
set_option maxRecDepth 100000 in
theorem give_whole {w : World} {kb tb mb : Nat} {g : Int} {P : Nat → Prop} {ι : Nat → Nat} {s : DS} {rv wv : Nat → Value} {qv : Value} {B : Nat} (h : KV w kb tb mb g P ι s rv wv qv) (hP : ∀ b, B ≤ b → P b) (hB : B ≤ w.heap.size) (a : Ask) (ha : s.AskSm a) (hw : a.whole = true) (hs : (s.take a).1.Sm) :
    Calls Tryz.prog 59 #[.pointer (some ⟨kb, 0, none⟩), askV (renA ι a)] w fun e w' => e = .returned (.int .i64 (s.take a).2) ∧ (∃ rv' wv', KV w' kb tb mb g P ι (s.take a).1 rv' wv' qv) ∧ Kp [kb] w w' := by
  have hf3 := ha.file
  have hoN := ha.o hw
  have htk : s.take a = ({s with W := updR s.W a.file (setW (s.W a.file) a.o a.k)}, 0) := by unfold DS.take; rw [if_pos hw]
  rw [htk] at hs ⊢
  have hkl := h.lt
  have HK := Hid.mk (fun (W : World) (hb : Below w.heap.size w W) => h.pair hb a.file hf3)
  have HF := Hid.mk (fun (W : World) (hb : Below w.heap.size w W) (o : Nat) => (hb.frozen (p := ⟨kb, o, none⟩) hkl).trans (h.frz o))
  have HOW := Hid.mk (fun (W : World) => OfWhole_any (renA ι a) W)
  have HS := Hid.mk (fun (W : World) (hb : Below w.heap.size w W) => wSet_any (v := wv a.file) (ι a.o) a.k (own_below (h.wr a.file hf3) hb) (by rw [renW_len]; have := h.sm.wl a.file; omega)
    (fun x hx => by
      obtain ⟨y, hy, rfl⟩ := List.mem_map.1 hx
      exact (h.opn (h.sm.w a.file y hy)).below hb) ((h.opn hoN).below hb))
  rw [h.rn.setW hoN] at HS
  have HPw := Hid.mk (h.pw a.file hf3)
  obtain ⟨ra, rc, hra⟩ := own_form (h.r a.file hf3)
  obtain ⟨wa, wc, hwa⟩ := own_form (h.wr a.file hf3)
  rw [hra] at HK
  rw [hwa] at HK HS HPw
  have HH := Hid.mk h
  have HSm := Hid.mk hs
  have how : (renA ι a).ow = some (ι a.o) := by rw [renA_ow]; unfold Ask.ow; rw [if_pos hw]; rfl
  have hwk : a.wk = a.k := by unfold Ask.wk; rw [if_pos hw]
  have hwh : (renA ι a).whole = true := hw
  rw [hwh] at HOW
  unfold askV at HOW ⊢
  rw [how, renA_rn, renA_wk, renA_p, renA_file, hwk] at HOW ⊢
  simp only [ptrV, Option.map_some] at HOW ⊢
  clear h ha hs hra hwa htk how hwk hwh hw
  generalize a.rn = rn at *
  generalize hak : a.k = ak at *
  generalize hap : a.p = ap at *
  generalize hao : a.o = ao at *
  generalize hai : a.file = i at *
  clear hak hap hao hai
  generalize (s.R i).length = rl at *
  generalize hwl : (renW ι (s.W i)).length = wl at *
  clear hwl
  have hi0 : (0 : Int) ≤ (i : Int) := by omega
  have hi3 : (i : Int) < 3 := by omega
  have hbx : Below w.heap.size w (w.alloc (.cells #[.int .i64 ap, .int .i64 i, .int .i64 rn.p, .int .i64 rn.k, .int .i64 rn.f, .int .i64 rn.t, .pointer (some ⟨ι ao, 0, none⟩), .int .i64 ak] 93)) := (Below.refl _ _).alloc (Nat.le_refl _) _
  obtain ⟨cr, cw⟩ := HK.out _ hbx
  have HBX := Hid.mk hbx
  clear hbx
  go_enter Tryz.func59, Tryz.ntmps59
  go_wp2
  go_region
  go_wp2_with (go_at_call 83; refine (HOW.out _).mono ?_; rintro e w1 ⟨rfl, hb1⟩; have hz1 := hb1.size; simp at hz1; have HB1 : Hid (Below w.heap.size w w1) := HBX.out.drew.trans (hb1.mono (by simp)); have e6 : w1.cell? ⟨w.heap.size, 6, none⟩ = some (.pointer (some ⟨ι ao, 0, none⟩)) := ((bcells hb1).1 _ _ (by simp)).trans (by simp); have e7 : w1.cell? ⟨w.heap.size, 7, none⟩ = some (.int .i64 ak) := ((bcells hb1).1 _ _ (by simp)).trans (by simp); clear hb1)
  obtain ⟨cr1, cw1⟩ := HK.out _ HB1.out
  have fz1 := HF.out _ HB1.out (3 + i * 2 + 1)
  go_region_with (go_at_call 84; refine (HS.out _ HB1.out.drew).mono ?_; rintro e w2 ⟨v2, rfl, ho2, hp2, hb2⟩; obtain ⟨a2, c2, rfl⟩ := own_form ho2; have HB2 : Hid (Below w.heap.size w w2) := HB1.out.drew.trans (hb2.mono (by show _ ≤ w1.heap.size; omega)); have cw2 := (HK.out _ HB2.out).2; have fz2 := HF.out _ HB2.out (3 + i * 2 + 1); have HO2 := Hid.mk ho2; have HP2 := Hid.mk hp2; clear ho2 hp2 hb2)
  all_goals
    go_wp2
    go_ret
    refine ⟨rfl, ⟨rv, updR wv i (.slice a2 (renW ι (setW (s.W i) ao ak)).length c2), ?_⟩, Kp.of_setCell HB2.out (by simp) _⟩
    refine (HH.out.below HB2.out).setWholes i hf3 HO2.out (fun b e => ?_) HSm.out
    rcases HP2.out b e with e2 | e2
    · exact HPw.out b e2
    · exact hP b (by have e3 : w1.heap.size ≤ b := e2; omega)

set_option maxHeartbeats 8000000 in
set_option maxRecDepth 100000 in
theorem give_runs {w : World} {kb tb mb : Nat} {g : Int} {P : Nat → Prop} {ι : Nat → Nat} {s : DS} {rv wv : Nat → Value} {qv : Value} {B : Nat} (h : KV w kb tb mb g P ι s rv wv qv) (hP : ∀ b, B ≤ b → P b) (hB : B ≤ w.heap.size) (a : Ask) (ha : s.AskSm a) (hw : a.whole = false) (hs : (s.take a).1.Sm) :
    Calls Tryz.prog 59 #[.pointer (some ⟨kb, 0, none⟩), askV (renA ι a)] w fun e w' => e = .returned (.int .i64 (s.take a).2) ∧ (∃ rv' wv', KV w' kb tb mb g P ι (s.take a).1 rv' wv' qv) ∧ Kp [kb] w w' := by
  have hf3 := ha.file
  have hrg := ha.rg hw
  have hkl := h.lt
  have HK := Hid.mk (fun (W : World) (hb : Below w.heap.size w W) => h.pair hb a.file hf3)
  have HF := Hid.mk (fun (W : World) (hb : Below w.heap.size w W) (o : Nat) => (hb.frozen (p := ⟨kb, o, none⟩) hkl).trans (h.frz o))
  have HOW := Hid.mk (fun (W : World) => OfWhole_any (renA ι a) W)
  have HS := Hid.mk (fun (W : World) (hb : Below w.heap.size w W) => Set_any (rv a.file) (s.R a.file) a.p a.k a.f a.t W (reads_own (own_below (h.r a.file hf3) hb)) (by have := h.sm.len a.file; omega)
    (fun x hx => by have := h.sm.run a.file x hx; unfold Rn.sm; omega) (by omega))
  have HPr := Hid.mk (h.pr a.file hf3)
  obtain ⟨ra, rc, hra⟩ := own_form (h.r a.file hf3)
  obtain ⟨wa, wc, hwa⟩ := own_form (h.wr a.file hf3)
  rw [hra] at HK HS HPr
  rw [hwa] at HK
  have HH := Hid.mk h
  have how : (renA ι a).ow = none := by rw [renA_ow]; unfold Ask.ow; rw [hw]; rfl
  have hwk : a.wk = 0 := by unfold Ask.wk; rw [hw]; rfl
  have hrn : a.rn = ⟨a.p, a.k, a.f, a.t⟩ := by unfold Ask.rn; rw [hw]; rfl
  have hwh : (renA ι a).whole = false := hw
  have htk : s.take a = if 12 < (setR (s.R a.file) ⟨a.p, a.k, a.f, a.t⟩).length then (s, 9) else ({s with R := updR s.R a.file (setR (s.R a.file) ⟨a.p, a.k, a.f, a.t⟩)}, 0) := by
    unfold DS.take Ask.run; rw [hw]; rfl
  rw [htk] at hs ⊢
  rw [hwh] at HOW
  unfold askV at HOW ⊢
  rw [how, renA_rn, renA_wk, renA_p, renA_file, hwk, hrn] at HOW ⊢
  simp only [ptrV, Option.map_none] at HOW ⊢
  clear h ha hra hwa htk how hwk hwh hw hrn hrg
  generalize setR (s.R a.file) ⟨a.p, a.k, a.f, a.t⟩ = nl at *
  generalize hak : a.k = ak at *
  generalize hap : a.p = ap at *
  generalize haf : a.f = af at *
  generalize hat : a.t = at_ at *
  generalize hai : a.file = i at *
  clear hak hap haf hat hai
  generalize (s.R i).length = rl at *
  generalize hwl : (renW ι (s.W i)).length = wl at *
  clear hwl
  have hi0 : (0 : Int) ≤ (i : Int) := by omega
  have hi3 : (i : Int) < 3 := by omega
  have hbx : Below w.heap.size w (w.alloc (.cells #[.int .i64 ap, .int .i64 i, .int .i64 ap, .int .i64 ak, .int .i64 af, .int .i64 at_, .pointer none, .int .i64 0] 93)) := (Below.refl _ _).alloc (Nat.le_refl _) _
  obtain ⟨cr, cw⟩ := HK.out _ hbx
  have HBX := Hid.mk hbx
  clear hbx
  by_cases hN : 12 < nl.length
  · have hN' : (12 : Int) < (nl.length : Int) := by omega
    simp only [if_pos hN] at hs ⊢
    clear hN
    go_enter Tryz.func59, Tryz.ntmps59
    go_wp2
    go_region
    go_wp2_with (go_at_call 83; refine (HOW.out _).mono ?_; rintro e w1 ⟨rfl, hb1⟩; have hz1 := hb1.size; simp at hz1; have HB1 : Hid (Below w.heap.size w w1) := HBX.out.drew.trans (hb1.mono (by simp)); have e2 : w1.cell? ⟨w.heap.size, 2, none⟩ = some (.int .i64 ap) := ((bcells hb1).1 _ _ (by simp)).trans (by simp); have e3 : w1.cell? ⟨w.heap.size, 3, none⟩ = some (.int .i64 ak) := ((bcells hb1).1 _ _ (by simp)).trans (by simp); have e4 : w1.cell? ⟨w.heap.size, 4, none⟩ = some (.int .i64 af) := ((bcells hb1).1 _ _ (by simp)).trans (by simp); have e5 : w1.cell? ⟨w.heap.size, 5, none⟩ = some (.int .i64 at_) := ((bcells hb1).1 _ _ (by simp)).trans (by simp); clear hb1)
    obtain ⟨cr1, cw1⟩ := HK.out _ HB1.out
    go_region_with (go_at_call 85; refine (HS.out _ HB1.out.drew).mono ?_; rintro e w2 ⟨v2, rfl, hg2, hb2⟩; obtain ⟨a2, c2, rfl⟩ := own_form hg2.own; have HB2 : Hid (Below w.heap.size w w2) := HB1.out.drew.trans (hb2.mono (by show _ ≤ w1.heap.size; omega)); have cr2 := (HK.out _ HB2.out).1; have fz2 := HF.out _ HB2.out (3 + i * 2); have HO2 := Hid.mk hg2.own; clear hg2 hb2)
    all_goals
      go_wp2
      go_ret
      exact ⟨rfl, ⟨rv, wv, HH.out.below HB2.out⟩, Kp.below HB2.out⟩
  · have hN' : ¬ (12 : Int) < (nl.length : Int) := by omega
    simp only [if_neg hN] at hs ⊢
    have HSm := Hid.mk hs
    clear hN hs
    go_enter Tryz.func59, Tryz.ntmps59
    go_wp2
    go_region
    go_wp2_with (go_at_call 83; refine (HOW.out _).mono ?_; rintro e w1 ⟨rfl, hb1⟩; have hz1 := hb1.size; simp at hz1; have HB1 : Hid (Below w.heap.size w w1) := HBX.out.drew.trans (hb1.mono (by simp)); have e2 : w1.cell? ⟨w.heap.size, 2, none⟩ = some (.int .i64 ap) := ((bcells hb1).1 _ _ (by simp)).trans (by simp); have e3 : w1.cell? ⟨w.heap.size, 3, none⟩ = some (.int .i64 ak) := ((bcells hb1).1 _ _ (by simp)).trans (by simp); have e4 : w1.cell? ⟨w.heap.size, 4, none⟩ = some (.int .i64 af) := ((bcells hb1).1 _ _ (by simp)).trans (by simp); have e5 : w1.cell? ⟨w.heap.size, 5, none⟩ = some (.int .i64 at_) := ((bcells hb1).1 _ _ (by simp)).trans (by simp); clear hb1)
    obtain ⟨cr1, cw1⟩ := HK.out _ HB1.out
    go_region_with (go_at_call 85; refine (HS.out _ HB1.out.drew).mono ?_; rintro e w2 ⟨v2, rfl, hg2, hb2⟩; obtain ⟨a2, c2, rfl⟩ := own_form hg2.own; have HB2 : Hid (Below w.heap.size w w2) := HB1.out.drew.trans (hb2.mono (by show _ ≤ w1.heap.size; omega)); have cr2 := (HK.out _ HB2.out).1; have fz2 := HF.out _ HB2.out (3 + i * 2); have HO2 := Hid.mk hg2.own; clear hg2 hb2)
    all_goals
      go_wp2
      go_ret
      refine ⟨rfl, ⟨updR rv i (.slice a2 nl.length c2), wv, ?_⟩, Kp.of_setCell HB2.out (by simp) _⟩
      refine (HH.out.below HB2.out).setRuns i hf3 (own_mono HO2.out (Nat.zero_le _)) (fun b e => ?_) HSm.out
      exact hP b (by have e3 : w1.heap.size ≤ b := (HO2.out.lt b e).1; omega)

theorem give_any {w : World} {kb tb mb : Nat} {g : Int} {P : Nat → Prop} {ι : Nat → Nat} {s : DS} {rv wv : Nat → Value} {qv : Value} {B : Nat} (h : KV w kb tb mb g P ι s rv wv qv) (hP : ∀ b, B ≤ b → P b) (hB : B ≤ w.heap.size) (a : Ask) (ha : s.AskSm a) (hs : (s.take a).1.Sm) :
    Calls Tryz.prog 59 #[.pointer (some ⟨kb, 0, none⟩), askV (renA ι a)] w fun e w' => e = .returned (.int .i64 (s.take a).2) ∧ (∃ rv' wv', KV w' kb tb mb g P ι (s.take a).1 rv' wv' qv) ∧ Kp [kb] w w' := by
  cases hw : a.whole
  · exact give_runs h hP hB a ha hw hs
  · exact give_whole h hP hB a ha hw hs
end Go.Proofs.YtaicdjhblbobbabGreat
