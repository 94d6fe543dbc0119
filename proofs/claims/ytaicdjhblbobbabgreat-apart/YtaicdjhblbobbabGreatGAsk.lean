/- Contract of the Kernel's ask: a lock is given, or waited for. -/
import Derived.Test.YtaicdjhblbobbabGreatGSettle
import Derived.Test.YtaicdjhblbobbabGreatGFind
namespace Go.Proofs.YtaicdjhblbobbabGreat
open Go.RowKit Go.Lib

theorem ones_snoc {s : DS} (h : s.Bas) {a : Ask} (hw : s.waits a.p = false) : DS.Ones {s with Q := s.Q ++ [a]} := by
  unfold DS.Ones
  rw [List.nodup_iff_pairwise_ne, List.pairwise_map]
  exact List.pairwise_append.2 ⟨h.qn, by simp, fun b hb c hc => by
    simp only [List.mem_cons, List.not_mem_nil, or_false] at hc
    subst hc
    exact DS.not_waits hw hb⟩
theorem lastP_ask {s : DS} (h : s.Bas) {a : Ask} (hw : s.waits a.p = false) : lastP (DS.wts {s with Q := s.Q ++ [a]}) = some a.p ↔ a.p ∈ DS.stuck {s with Q := s.Q ++ [a]} :=
  lastP_mem (ones_snoc h hw) (DS.wts_is (ones_snoc h hw)) (by simp)
theorem renQ_snoc (ι : Nat → Nat) (l : List Ask) (a : Ask) : renQ ι (l ++ [a]) = renQ ι l ++ [renA ι a] := by simp [renQ]

set_option maxHeartbeats 16000000 in
set_option maxRecDepth 100000 in
theorem ask_any {w : World} {kb tb mb : Nat} {g : Int} {P : Nat → Prop} {ι : Nat → Nat} {s : DS} {rv wv : Nat → Value} {qv : Value} {B : Nat} (h : KV w kb tb mb g P ι s rv wv qv) (hP : ∀ b, B ≤ b → P b) (hB : B ≤ w.heap.size) (hinv : s.Inv) (a : Ask) (ha : s.AskOk a) (hnw : s.waits a.p = false) (wait : Bool) :
    Calls Tryz.prog 40 #[.pointer (some ⟨kb, 0, none⟩), askV (renA ι a), .bool wait] w fun e w' => e = .returned (.int .i64 (s.ask0 a wait).2) ∧ (∃ rv' wv' qv', KV w' kb tb mb g P ι (s.ask0 a wait).1 rv' wv' qv') ∧ Kp [kb] w w' := by
  have hsm := ha.sm hinv.toBas
  have hql := h.sm.ql
  have hown := h.q
  have hq6 := ones_le hinv.qn (fun b hb => live_mem (hinv.q b hb).1.l)
  obtain ⟨qa, qc, rfl⟩ := own_form h.q
  rw [renQ_len] at *
  have hkl := h.lt
  have H9 := Hid.mk (fun (W : World) (hb : Below w.heap.size w W) => (hb.cell (p := ⟨kb, 9, none⟩) hkl).trans h.c9)
  have HF9 := Hid.mk (fun (W : World) (hb : Below w.heap.size w W) => (hb.frozen (p := ⟨kb, 9, none⟩) hkl).trans (h.frz 9))
  have HWY := Hid.mk (fun (W : World) (hb : Below w.heap.size w W) => ways_any (h.below hb) a hsm (.slice qa s.Q.length qc) s.Q h.sm.q (by omega) (own_below (by rw [renQ_len]; exact hown) hb))
  have HGV := Hid.mk (fun (W : World) (hb : Below w.heap.size w W) (hw : s.way a s.Q = []) => give_any (h.below hb) hP (by have := hb.size; omega) a hsm (hinv.toBas.take ha (DS.Clear.of_way hinv.toBas hw)).sm)
  have HWT := Hid.mk (fun (W : World) (hb : Below w.heap.size w W) => With_any (v := .slice qa s.Q.length qc) (l := renQ ι s.Q) (renA ι a) (own_below (by rw [renQ_len]; exact hown) hb) (by rw [renQ_len]; omega))
  rw [← renQ_snoc] at HWT
  have HLS := Hid.mk (fun (W : World) (hb : Below w.heap.size w W) (lv : Value) (hlv : W.ownsRow 0 93 8 lv (renQ ι (s.Q ++ [a])).length (flatQ (renQ ι (s.Q ++ [a])))) => lastStuck_any (h.below hb) lv (s.Q ++ [a])
    (fun b hb => by
      rcases List.mem_append.1 hb with hb | hb
      · exact h.sm.q b hb
      · simp only [List.mem_cons, List.not_mem_nil, or_false] at hb; subst hb; exact hsm) (by simp; omega) hlv)
  have hnil : s.wayP a s.Q = [] ↔ s.way a s.Q = [] := DS.wayP_nil (fun b hb => DS.not_waits hnw hb)
  have hlast := lastP_ask hinv.toBas hnw
  have HB0 := Hid.mk (DS.Bas.ask0 hinv ha hnw wait)
  have HH := Hid.mk h
  have hK0 : s.ask0 a wait = if s.way a s.Q = [] then s.take a else if wait = false then (s, 8) else if a.p ∈ (DS.stuck {s with Q := s.Q ++ [a]}) then (s, 10) else ({s with Q := s.Q ++ [a]}, 11) := rfl
  have HAV := Hid.mk (show askV (renA ι a) = .agg #[.int .i64 a.p, .int .i64 a.file, .int .i64 a.rn.p, .int .i64 a.rn.k, .int .i64 a.rn.f, .int .i64 a.rn.t, ptrV (renA ι a).ow, .int .i64 a.wk] from rfl)
  rw [HAV.out] at HWY HGV HWT ⊢
  unfold ptrV at *
  generalize (renA ι a).ow.map (fun b => (⟨b, 0, none⟩ : Addr)) = A at *
  generalize hrn : a.rn = rn at *
  generalize hwk : a.wk = wk at *
  generalize hap : a.p = ap at *
  generalize hai : a.file = i at *
  have HBX : Hid (Below w.heap.size w (w.alloc (.cells #[.int .i64 ap, .int .i64 i, .int .i64 rn.p, .int .i64 rn.k, .int .i64 rn.f, .int .i64 rn.t, .pointer A, .int .i64 wk] 93))) := (Below.refl _ _).alloc (Nat.le_refl _) _
  clear h hinv ha hsm hown hrn hwk hap hai hnw HAV
  have h9 := H9.out w (Below.refl _ _)
  by_cases hemp : s.wayP a s.Q = []
  · have HE := Hid.mk (hnil.1 hemp)
    rw [hemp] at HWY
    rw [if_pos HE.out] at hK0
    have HK0 := Hid.mk hK0
    clear hemp hnil hK0 hlast
    go_enter Tryz.func40, Tryz.ntmps40
    go_upto_region 1 with fail
    go_region_held3 (fun u => u.cell? ⟨kb, 9, none⟩ = some (.slice qa s.Q.length qc) ∧ u.cell? ⟨w.heap.size, 0, none⟩ = some (.int .i64 ap) ∧ u.cell? ⟨w.heap.size, 1, none⟩ = some (.int .i64 i) ∧ u.cell? ⟨w.heap.size, 2, none⟩ = some (.int .i64 rn.p) ∧ u.cell? ⟨w.heap.size, 3, none⟩ = some (.int .i64 rn.k) ∧ u.cell? ⟨w.heap.size, 4, none⟩ = some (.int .i64 rn.f) ∧ u.cell? ⟨w.heap.size, 5, none⟩ = some (.int .i64 rn.t) ∧ u.cell? ⟨w.heap.size, 6, none⟩ = some (.pointer A) ∧ u.cell? ⟨w.heap.size, 7, none⟩ = some (.int .i64 wk)) (simp [go_sem, World.cell?_alloc_past, *])
      (first
        | (go_at_call 58; refine (HWY.out _ ?_).mono ?_; exact HBX.out.drew; rintro e w3 ⟨v3, us3, rfl, hwy, hb3⟩; obtain ⟨a3, c3, rfl⟩ := own_form hwy.own; have hz3 := hb3.size; simp at hz3; have hww : w.heap.size < w3.heap.size := (by omega); have HBW : Hid (Below w.heap.size w w3) := HBX.out.drew.trans (hb3.mono (by simp)); have k9w3 := H9.out w3 HBW.out; have k0w3 : w3.cell? ⟨w.heap.size, 0, none⟩ = some (.int .i64 ap) := ((bcells hb3).1 _ _ (by simp)).trans (by simp); have k1w3 : w3.cell? ⟨w.heap.size, 1, none⟩ = some (.int .i64 i) := ((bcells hb3).1 _ _ (by simp)).trans (by simp); have k2w3 : w3.cell? ⟨w.heap.size, 2, none⟩ = some (.int .i64 rn.p) := ((bcells hb3).1 _ _ (by simp)).trans (by simp); have k3w3 : w3.cell? ⟨w.heap.size, 3, none⟩ = some (.int .i64 rn.k) := ((bcells hb3).1 _ _ (by simp)).trans (by simp); have k4w3 : w3.cell? ⟨w.heap.size, 4, none⟩ = some (.int .i64 rn.f) := ((bcells hb3).1 _ _ (by simp)).trans (by simp); have k5w3 : w3.cell? ⟨w.heap.size, 5, none⟩ = some (.int .i64 rn.t) := ((bcells hb3).1 _ _ (by simp)).trans (by simp); have k6w3 : w3.cell? ⟨w.heap.size, 6, none⟩ = some (.pointer A) := ((bcells hb3).1 _ _ (by simp)).trans (by simp); have k7w3 : w3.cell? ⟨w.heap.size, 7, none⟩ = some (.int .i64 wk) := ((bcells hb3).1 _ _ (by simp)).trans (by simp); clear hwy hb3))
    go_wp2_with (go_at_call 59; refine (HGV.out _ HBW.out HE.out).mono ?_; rintro e w4 ⟨rfl, hkv, hkp⟩; have HKV := Hid.mk hkv; have HKP : Hid (Kp [kb] w w4) := (Kp.below HBW.out).trans hkp; clear hkv hkp)
    go_ret
    rw [HK0.out]
    obtain ⟨rv', wv', hkv⟩ := HKV.out
    exact ⟨rfl, ⟨rv', wv', _, hkv⟩, HKP.out⟩
  · have HE : Hid (s.way a s.Q ≠ []) := fun e => hemp (hnil.2 e)
    have hpos : 0 < (s.wayP a s.Q).length := List.length_pos_iff.2 hemp
    rw [if_neg HE.out] at hK0
    generalize s.wayP a s.Q = WL at *
    clear hemp hnil
    cases wait
    · simp only [if_true] at hK0
      have HK0 := Hid.mk hK0
      clear hK0 hlast
      go_enter Tryz.func40, Tryz.ntmps40
      go_upto_region 1 with fail
      go_region_held3 (fun u => u.cell? ⟨kb, 9, none⟩ = some (.slice qa s.Q.length qc) ∧ u.cell? ⟨w.heap.size, 0, none⟩ = some (.int .i64 ap) ∧ u.cell? ⟨w.heap.size, 1, none⟩ = some (.int .i64 i) ∧ u.cell? ⟨w.heap.size, 2, none⟩ = some (.int .i64 rn.p) ∧ u.cell? ⟨w.heap.size, 3, none⟩ = some (.int .i64 rn.k) ∧ u.cell? ⟨w.heap.size, 4, none⟩ = some (.int .i64 rn.f) ∧ u.cell? ⟨w.heap.size, 5, none⟩ = some (.int .i64 rn.t) ∧ u.cell? ⟨w.heap.size, 6, none⟩ = some (.pointer A) ∧ u.cell? ⟨w.heap.size, 7, none⟩ = some (.int .i64 wk)) (simp [go_sem, World.cell?_alloc_past, *])
        (first
          | (go_at_call 58; refine (HWY.out _ ?_).mono ?_; exact HBX.out.drew; rintro e w3 ⟨v3, us3, rfl, hwy, hb3⟩; obtain ⟨a3, c3, rfl⟩ := own_form hwy.own; have hz3 := hb3.size; simp at hz3; have hww : w.heap.size < w3.heap.size := (by omega); have HBW : Hid (Below w.heap.size w w3) := HBX.out.drew.trans (hb3.mono (by simp)); have k9w3 := H9.out w3 HBW.out; have k0w3 : w3.cell? ⟨w.heap.size, 0, none⟩ = some (.int .i64 ap) := ((bcells hb3).1 _ _ (by simp)).trans (by simp); have k1w3 : w3.cell? ⟨w.heap.size, 1, none⟩ = some (.int .i64 i) := ((bcells hb3).1 _ _ (by simp)).trans (by simp); have k2w3 : w3.cell? ⟨w.heap.size, 2, none⟩ = some (.int .i64 rn.p) := ((bcells hb3).1 _ _ (by simp)).trans (by simp); have k3w3 : w3.cell? ⟨w.heap.size, 3, none⟩ = some (.int .i64 rn.k) := ((bcells hb3).1 _ _ (by simp)).trans (by simp); have k4w3 : w3.cell? ⟨w.heap.size, 4, none⟩ = some (.int .i64 rn.f) := ((bcells hb3).1 _ _ (by simp)).trans (by simp); have k5w3 : w3.cell? ⟨w.heap.size, 5, none⟩ = some (.int .i64 rn.t) := ((bcells hb3).1 _ _ (by simp)).trans (by simp); have k6w3 : w3.cell? ⟨w.heap.size, 6, none⟩ = some (.pointer A) := ((bcells hb3).1 _ _ (by simp)).trans (by simp); have k7w3 : w3.cell? ⟨w.heap.size, 7, none⟩ = some (.int .i64 wk) := ((bcells hb3).1 _ _ (by simp)).trans (by simp); clear hwy hb3))
      go_wp2
      go_ret
      rw [HK0.out]
      exact ⟨rfl, ⟨rv, wv, _, HH.out.below HBW.out⟩, Kp.below HBW.out⟩
    · simp only [Bool.true_eq_false, if_false] at hK0
      generalize lastP (DS.wts {s with Q := s.Q ++ [a]}) = lp at *
      cases lp with
      | none =>
        rw [if_neg (fun e => by have := hlast.2 e; cases this)] at hK0
        have HK0 := Hid.mk hK0
        clear hK0 hlast
        go_enter Tryz.func40, Tryz.ntmps40
        go_upto_region 1 with fail
        go_region_held3 (fun u => u.cell? ⟨kb, 9, none⟩ = some (.slice qa s.Q.length qc) ∧ u.cell? ⟨w.heap.size, 0, none⟩ = some (.int .i64 ap) ∧ u.cell? ⟨w.heap.size, 1, none⟩ = some (.int .i64 i) ∧ u.cell? ⟨w.heap.size, 2, none⟩ = some (.int .i64 rn.p) ∧ u.cell? ⟨w.heap.size, 3, none⟩ = some (.int .i64 rn.k) ∧ u.cell? ⟨w.heap.size, 4, none⟩ = some (.int .i64 rn.f) ∧ u.cell? ⟨w.heap.size, 5, none⟩ = some (.int .i64 rn.t) ∧ u.cell? ⟨w.heap.size, 6, none⟩ = some (.pointer A) ∧ u.cell? ⟨w.heap.size, 7, none⟩ = some (.int .i64 wk)) (simp [go_sem, World.cell?_alloc_past, *])
          (first
            | (go_at_call 58; refine (HWY.out _ ?_).mono ?_; exact HBX.out.drew; rintro e w3 ⟨v3, us3, rfl, hwy, hb3⟩; obtain ⟨a3, c3, rfl⟩ := own_form hwy.own; have hz3 := hb3.size; simp at hz3; have hww : w.heap.size < w3.heap.size := (by omega); have HBW : Hid (Below w.heap.size w w3) := HBX.out.drew.trans (hb3.mono (by simp)); have k9w3 := H9.out w3 HBW.out; have k0w3 : w3.cell? ⟨w.heap.size, 0, none⟩ = some (.int .i64 ap) := ((bcells hb3).1 _ _ (by simp)).trans (by simp); have k1w3 : w3.cell? ⟨w.heap.size, 1, none⟩ = some (.int .i64 i) := ((bcells hb3).1 _ _ (by simp)).trans (by simp); have k2w3 : w3.cell? ⟨w.heap.size, 2, none⟩ = some (.int .i64 rn.p) := ((bcells hb3).1 _ _ (by simp)).trans (by simp); have k3w3 : w3.cell? ⟨w.heap.size, 3, none⟩ = some (.int .i64 rn.k) := ((bcells hb3).1 _ _ (by simp)).trans (by simp); have k4w3 : w3.cell? ⟨w.heap.size, 4, none⟩ = some (.int .i64 rn.f) := ((bcells hb3).1 _ _ (by simp)).trans (by simp); have k5w3 : w3.cell? ⟨w.heap.size, 5, none⟩ = some (.int .i64 rn.t) := ((bcells hb3).1 _ _ (by simp)).trans (by simp); have k6w3 : w3.cell? ⟨w.heap.size, 6, none⟩ = some (.pointer A) := ((bcells hb3).1 _ _ (by simp)).trans (by simp); have k7w3 : w3.cell? ⟨w.heap.size, 7, none⟩ = some (.int .i64 wk) := ((bcells hb3).1 _ _ (by simp)).trans (by simp); clear hwy hb3))
        go_upto_region 5 with fail
        go_region_held3 (fun u => u.cell? ⟨kb, 9, none⟩ = some (.slice qa s.Q.length qc) ∧ u.cell? ⟨w.heap.size, 0, none⟩ = some (.int .i64 ap) ∧ u.cell? ⟨w.heap.size, 1, none⟩ = some (.int .i64 i) ∧ u.cell? ⟨w.heap.size, 2, none⟩ = some (.int .i64 rn.p) ∧ u.cell? ⟨w.heap.size, 3, none⟩ = some (.int .i64 rn.k) ∧ u.cell? ⟨w.heap.size, 4, none⟩ = some (.int .i64 rn.f) ∧ u.cell? ⟨w.heap.size, 5, none⟩ = some (.int .i64 rn.t) ∧ u.cell? ⟨w.heap.size, 6, none⟩ = some (.pointer A) ∧ u.cell? ⟨w.heap.size, 7, none⟩ = some (.int .i64 wk)) (simp [go_sem, *])
          (first
            | (go_at_call 60; refine (HWT.out _ ?_).mono ?_; exact HBW.out.drew; rintro e w4 ⟨v4, rfl, ho4, hb4⟩; obtain ⟨a4, c4, rfl⟩ := own_form ho4; have hz4 := hb4.size; have HBV : Hid (Below w.heap.size w w4) := HBW.out.drew.trans (hb4.mono (by show _ ≤ w3.heap.size; omega)); have k9w4 := H9.out w4 HBV.out; have hww4 : w.heap.size < w4.heap.size := (by have : w3.heap.size ≤ w4.heap.size := hz4; omega); have k0w4 := (hb4.cell (p := ⟨w.heap.size, 0, none⟩) hww).trans k0w3; have k1w4 := (hb4.cell (p := ⟨w.heap.size, 1, none⟩) hww).trans k1w3; have k2w4 := (hb4.cell (p := ⟨w.heap.size, 2, none⟩) hww).trans k2w3; have k3w4 := (hb4.cell (p := ⟨w.heap.size, 3, none⟩) hww).trans k3w3; have k4w4 := (hb4.cell (p := ⟨w.heap.size, 4, none⟩) hww).trans k4w3; have k5w4 := (hb4.cell (p := ⟨w.heap.size, 5, none⟩) hww).trans k5w3; have k6w4 := (hb4.cell (p := ⟨w.heap.size, 6, none⟩) hww).trans k6w3; have k7w4 := (hb4.cell (p := ⟨w.heap.size, 7, none⟩) hww).trans k7w3; have HO4 := Hid.mk ho4; clear ho4 hb4))
        have HL := Hid.mk (HLS.out w4 HBV.out _ (own_mono HO4.out (Nat.zero_le _)))
        go_wp2_with (go_at_call 61; refine HL.out.mono ?_; rintro e w5 ⟨rfl, hb5⟩; have hz5 := hb5.size; have HB5 : Hid (Below w.heap.size w w5) := HBV.out.trans (hb5.mono (by show _ ≤ w4.heap.size; omega)); have k9w5 := H9.out w5 HB5.out; have f9w5 := HF9.out w5 HB5.out; have k0w5 := (hb5.cell (p := ⟨w.heap.size, 0, none⟩) (by show w.heap.size < w4.heap.size; omega)).trans k0w4; have HB5' : Hid (Below w4.heap.size w4 w5) := hb5; clear hb5)
        go_ret
        have hB0 := HB0.out
        rw [HK0.out] at hB0 ⊢
        refine ⟨rfl, ⟨rv, wv, .slice a4 (renQ ι (s.Q ++ [a])).length c4, ?_⟩, Kp.of_setCell HB5.out (by simp) _⟩
        exact (HH.out.below HB5.out).setQueue (own_mono (own_below HO4.out HB5'.out) (Nat.zero_le _)) (fun b e => hP b (by have : w3.heap.size ≤ b := (HO4.out.lt b e).1; omega)) hB0.sm
      | some lq =>
        by_cases hq : lq = ap
        · rw [if_pos (hlast.1 (by rw [hq]))] at hK0
          have HK0 := Hid.mk hK0
          have hq' := hq.symm
          subst hq'
          clear hK0 hlast
          go_enter Tryz.func40, Tryz.ntmps40
          go_upto_region 1 with fail
          go_region_held3 (fun u => u.cell? ⟨kb, 9, none⟩ = some (.slice qa s.Q.length qc) ∧ u.cell? ⟨w.heap.size, 0, none⟩ = some (.int .i64 ap) ∧ u.cell? ⟨w.heap.size, 1, none⟩ = some (.int .i64 i) ∧ u.cell? ⟨w.heap.size, 2, none⟩ = some (.int .i64 rn.p) ∧ u.cell? ⟨w.heap.size, 3, none⟩ = some (.int .i64 rn.k) ∧ u.cell? ⟨w.heap.size, 4, none⟩ = some (.int .i64 rn.f) ∧ u.cell? ⟨w.heap.size, 5, none⟩ = some (.int .i64 rn.t) ∧ u.cell? ⟨w.heap.size, 6, none⟩ = some (.pointer A) ∧ u.cell? ⟨w.heap.size, 7, none⟩ = some (.int .i64 wk)) (simp [go_sem, World.cell?_alloc_past, *])
            (first
              | (go_at_call 58; refine (HWY.out _ ?_).mono ?_; exact HBX.out.drew; rintro e w3 ⟨v3, us3, rfl, hwy, hb3⟩; obtain ⟨a3, c3, rfl⟩ := own_form hwy.own; have hz3 := hb3.size; simp at hz3; have hww : w.heap.size < w3.heap.size := (by omega); have HBW : Hid (Below w.heap.size w w3) := HBX.out.drew.trans (hb3.mono (by simp)); have k9w3 := H9.out w3 HBW.out; have k0w3 : w3.cell? ⟨w.heap.size, 0, none⟩ = some (.int .i64 ap) := ((bcells hb3).1 _ _ (by simp)).trans (by simp); have k1w3 : w3.cell? ⟨w.heap.size, 1, none⟩ = some (.int .i64 i) := ((bcells hb3).1 _ _ (by simp)).trans (by simp); have k2w3 : w3.cell? ⟨w.heap.size, 2, none⟩ = some (.int .i64 rn.p) := ((bcells hb3).1 _ _ (by simp)).trans (by simp); have k3w3 : w3.cell? ⟨w.heap.size, 3, none⟩ = some (.int .i64 rn.k) := ((bcells hb3).1 _ _ (by simp)).trans (by simp); have k4w3 : w3.cell? ⟨w.heap.size, 4, none⟩ = some (.int .i64 rn.f) := ((bcells hb3).1 _ _ (by simp)).trans (by simp); have k5w3 : w3.cell? ⟨w.heap.size, 5, none⟩ = some (.int .i64 rn.t) := ((bcells hb3).1 _ _ (by simp)).trans (by simp); have k6w3 : w3.cell? ⟨w.heap.size, 6, none⟩ = some (.pointer A) := ((bcells hb3).1 _ _ (by simp)).trans (by simp); have k7w3 : w3.cell? ⟨w.heap.size, 7, none⟩ = some (.int .i64 wk) := ((bcells hb3).1 _ _ (by simp)).trans (by simp); clear hwy hb3))
          go_upto_region 5 with fail
          go_region_held3 (fun u => u.cell? ⟨kb, 9, none⟩ = some (.slice qa s.Q.length qc) ∧ u.cell? ⟨w.heap.size, 0, none⟩ = some (.int .i64 ap) ∧ u.cell? ⟨w.heap.size, 1, none⟩ = some (.int .i64 i) ∧ u.cell? ⟨w.heap.size, 2, none⟩ = some (.int .i64 rn.p) ∧ u.cell? ⟨w.heap.size, 3, none⟩ = some (.int .i64 rn.k) ∧ u.cell? ⟨w.heap.size, 4, none⟩ = some (.int .i64 rn.f) ∧ u.cell? ⟨w.heap.size, 5, none⟩ = some (.int .i64 rn.t) ∧ u.cell? ⟨w.heap.size, 6, none⟩ = some (.pointer A) ∧ u.cell? ⟨w.heap.size, 7, none⟩ = some (.int .i64 wk)) (simp [go_sem, *])
            (first
              | (go_at_call 60; refine (HWT.out _ ?_).mono ?_; exact HBW.out.drew; rintro e w4 ⟨v4, rfl, ho4, hb4⟩; obtain ⟨a4, c4, rfl⟩ := own_form ho4; have hz4 := hb4.size; have HBV : Hid (Below w.heap.size w w4) := HBW.out.drew.trans (hb4.mono (by show _ ≤ w3.heap.size; omega)); have k9w4 := H9.out w4 HBV.out; have hww4 : w.heap.size < w4.heap.size := (by have : w3.heap.size ≤ w4.heap.size := hz4; omega); have k0w4 := (hb4.cell (p := ⟨w.heap.size, 0, none⟩) hww).trans k0w3; have k1w4 := (hb4.cell (p := ⟨w.heap.size, 1, none⟩) hww).trans k1w3; have k2w4 := (hb4.cell (p := ⟨w.heap.size, 2, none⟩) hww).trans k2w3; have k3w4 := (hb4.cell (p := ⟨w.heap.size, 3, none⟩) hww).trans k3w3; have k4w4 := (hb4.cell (p := ⟨w.heap.size, 4, none⟩) hww).trans k4w3; have k5w4 := (hb4.cell (p := ⟨w.heap.size, 5, none⟩) hww).trans k5w3; have k6w4 := (hb4.cell (p := ⟨w.heap.size, 6, none⟩) hww).trans k6w3; have k7w4 := (hb4.cell (p := ⟨w.heap.size, 7, none⟩) hww).trans k7w3; have HO4 := Hid.mk ho4; clear ho4 hb4))
          have HL := Hid.mk (HLS.out w4 HBV.out _ (own_mono HO4.out (Nat.zero_le _)))
          go_wp2_with (go_at_call 61; refine HL.out.mono ?_; rintro e w5 ⟨rfl, hb5⟩; have hz5 := hb5.size; have HB5 : Hid (Below w.heap.size w w5) := HBV.out.trans (hb5.mono (by show _ ≤ w4.heap.size; omega)); have k9w5 := H9.out w5 HB5.out; have f9w5 := HF9.out w5 HB5.out; have k0w5 := (hb5.cell (p := ⟨w.heap.size, 0, none⟩) (by show w.heap.size < w4.heap.size; omega)).trans k0w4; have HB5' : Hid (Below w4.heap.size w4 w5) := hb5; clear hb5)
          go_ret
          rw [HK0.out]
          exact ⟨rfl, ⟨rv, wv, _, HH.out.below HB5.out⟩, Kp.below HB5.out⟩
        · rw [if_neg (fun e => hq (by have := hlast.2 e; cases this; rfl))] at hK0
          have HK0 := Hid.mk hK0
          clear hK0 hlast
          go_enter Tryz.func40, Tryz.ntmps40
          go_upto_region 1 with fail
          go_region_held3 (fun u => u.cell? ⟨kb, 9, none⟩ = some (.slice qa s.Q.length qc) ∧ u.cell? ⟨w.heap.size, 0, none⟩ = some (.int .i64 ap) ∧ u.cell? ⟨w.heap.size, 1, none⟩ = some (.int .i64 i) ∧ u.cell? ⟨w.heap.size, 2, none⟩ = some (.int .i64 rn.p) ∧ u.cell? ⟨w.heap.size, 3, none⟩ = some (.int .i64 rn.k) ∧ u.cell? ⟨w.heap.size, 4, none⟩ = some (.int .i64 rn.f) ∧ u.cell? ⟨w.heap.size, 5, none⟩ = some (.int .i64 rn.t) ∧ u.cell? ⟨w.heap.size, 6, none⟩ = some (.pointer A) ∧ u.cell? ⟨w.heap.size, 7, none⟩ = some (.int .i64 wk)) (simp [go_sem, World.cell?_alloc_past, *])
            (first
              | (go_at_call 58; refine (HWY.out _ ?_).mono ?_; exact HBX.out.drew; rintro e w3 ⟨v3, us3, rfl, hwy, hb3⟩; obtain ⟨a3, c3, rfl⟩ := own_form hwy.own; have hz3 := hb3.size; simp at hz3; have hww : w.heap.size < w3.heap.size := (by omega); have HBW : Hid (Below w.heap.size w w3) := HBX.out.drew.trans (hb3.mono (by simp)); have k9w3 := H9.out w3 HBW.out; have k0w3 : w3.cell? ⟨w.heap.size, 0, none⟩ = some (.int .i64 ap) := ((bcells hb3).1 _ _ (by simp)).trans (by simp); have k1w3 : w3.cell? ⟨w.heap.size, 1, none⟩ = some (.int .i64 i) := ((bcells hb3).1 _ _ (by simp)).trans (by simp); have k2w3 : w3.cell? ⟨w.heap.size, 2, none⟩ = some (.int .i64 rn.p) := ((bcells hb3).1 _ _ (by simp)).trans (by simp); have k3w3 : w3.cell? ⟨w.heap.size, 3, none⟩ = some (.int .i64 rn.k) := ((bcells hb3).1 _ _ (by simp)).trans (by simp); have k4w3 : w3.cell? ⟨w.heap.size, 4, none⟩ = some (.int .i64 rn.f) := ((bcells hb3).1 _ _ (by simp)).trans (by simp); have k5w3 : w3.cell? ⟨w.heap.size, 5, none⟩ = some (.int .i64 rn.t) := ((bcells hb3).1 _ _ (by simp)).trans (by simp); have k6w3 : w3.cell? ⟨w.heap.size, 6, none⟩ = some (.pointer A) := ((bcells hb3).1 _ _ (by simp)).trans (by simp); have k7w3 : w3.cell? ⟨w.heap.size, 7, none⟩ = some (.int .i64 wk) := ((bcells hb3).1 _ _ (by simp)).trans (by simp); clear hwy hb3))
          go_upto_region 5 with fail
          go_region_held3 (fun u => u.cell? ⟨kb, 9, none⟩ = some (.slice qa s.Q.length qc) ∧ u.cell? ⟨w.heap.size, 0, none⟩ = some (.int .i64 ap) ∧ u.cell? ⟨w.heap.size, 1, none⟩ = some (.int .i64 i) ∧ u.cell? ⟨w.heap.size, 2, none⟩ = some (.int .i64 rn.p) ∧ u.cell? ⟨w.heap.size, 3, none⟩ = some (.int .i64 rn.k) ∧ u.cell? ⟨w.heap.size, 4, none⟩ = some (.int .i64 rn.f) ∧ u.cell? ⟨w.heap.size, 5, none⟩ = some (.int .i64 rn.t) ∧ u.cell? ⟨w.heap.size, 6, none⟩ = some (.pointer A) ∧ u.cell? ⟨w.heap.size, 7, none⟩ = some (.int .i64 wk)) (simp [go_sem, *])
            (first
              | (go_at_call 60; refine (HWT.out _ ?_).mono ?_; exact HBW.out.drew; rintro e w4 ⟨v4, rfl, ho4, hb4⟩; obtain ⟨a4, c4, rfl⟩ := own_form ho4; have hz4 := hb4.size; have HBV : Hid (Below w.heap.size w w4) := HBW.out.drew.trans (hb4.mono (by show _ ≤ w3.heap.size; omega)); have k9w4 := H9.out w4 HBV.out; have hww4 : w.heap.size < w4.heap.size := (by have : w3.heap.size ≤ w4.heap.size := hz4; omega); have k0w4 := (hb4.cell (p := ⟨w.heap.size, 0, none⟩) hww).trans k0w3; have k1w4 := (hb4.cell (p := ⟨w.heap.size, 1, none⟩) hww).trans k1w3; have k2w4 := (hb4.cell (p := ⟨w.heap.size, 2, none⟩) hww).trans k2w3; have k3w4 := (hb4.cell (p := ⟨w.heap.size, 3, none⟩) hww).trans k3w3; have k4w4 := (hb4.cell (p := ⟨w.heap.size, 4, none⟩) hww).trans k4w3; have k5w4 := (hb4.cell (p := ⟨w.heap.size, 5, none⟩) hww).trans k5w3; have k6w4 := (hb4.cell (p := ⟨w.heap.size, 6, none⟩) hww).trans k6w3; have k7w4 := (hb4.cell (p := ⟨w.heap.size, 7, none⟩) hww).trans k7w3; have HO4 := Hid.mk ho4; clear ho4 hb4))
          have HL := Hid.mk (HLS.out w4 HBV.out _ (own_mono HO4.out (Nat.zero_le _)))
          go_wp2_with (go_at_call 61; refine HL.out.mono ?_; rintro e w5 ⟨rfl, hb5⟩; have hz5 := hb5.size; have HB5 : Hid (Below w.heap.size w w5) := HBV.out.trans (hb5.mono (by show _ ≤ w4.heap.size; omega)); have k9w5 := H9.out w5 HB5.out; have f9w5 := HF9.out w5 HB5.out; have k0w5 := (hb5.cell (p := ⟨w.heap.size, 0, none⟩) (by show w.heap.size < w4.heap.size; omega)).trans k0w4; have HB5' : Hid (Below w4.heap.size w4 w5) := hb5; clear hb5)
          go_ret
          have hB0 := HB0.out
          rw [HK0.out] at hB0 ⊢
          refine ⟨rfl, ⟨rv, wv, .slice a4 (renQ ι (s.Q ++ [a])).length c4, ?_⟩, Kp.of_setCell HB5.out (by simp) _⟩
          exact (HH.out.below HB5.out).setQueue (own_mono (own_below HO4.out HB5'.out) (Nat.zero_le _)) (fun b e => hP b (by have : w3.heap.size ≤ b := (HO4.out.lt b e).1; omega)) hB0.sm
end Go.Proofs.YtaicdjhblbobbabGreat

/- Contracts of the Kernel's lock, whole and test (the guard is held). -/
namespace Go.Proofs.YtaicdjhblbobbabGreat
open Go.RowKit Go.Lib

def DS.lock0 (s : DS) (p d k f l : Int) (wait : Bool) : DS × Int := if s.readK p d k f l 0 ≠ 0 then (s, s.readK p d k f l 0) else
  match s.F p d with
  | none => (s, 0)
  | some o => s.ask0 ⟨p, k, s.O o, false, o, fromS f l, toS f l⟩ wait
def DS.whole0 (s : DS) (p d k : Int) (wait : Bool) : DS × Int := if s.findK p d k 0 ≠ 0 then (s, s.findK p d k 0) else
  match s.F p d with
  | none => (s, 0)
  | some o => s.ask0 ⟨p, k, s.O o, true, o, 0, 0⟩ wait
def DS.test0 (s : DS) (p d k f l : Int) : Int × Int := if s.readK p d k f l 1 ≠ 0 then (0, s.readK p d k f l 1) else
  match s.F p d with
  | none => (0, 0)
  | some o => match holders (s.R (s.O o)) ⟨p, k, fromS f l, toS f l⟩ with
    | [] => (-1, 0)
    | q :: _ => (q, 0)
theorem readK_zero {s : DS} {p d k f l m : Int} (he : s.readK p d k f l m = 0) : ∃ o, liveB s.L p = true ∧ s.F p d = some o ∧ kindB k = true ∧ m ≤ k ∧ badS f l = false := by
  unfold DS.readK at he
  split at he
  · rename_i h; exact absurd he h
  · rename_i h
    obtain ⟨o, h1, h2, h3, h4⟩ := findK_zero (by simpa using h : s.findK p d k m = 0)
    split at he
    · cases he
    · rename_i hb; exact ⟨o, h1, h2, h3, h4, by simpa using hb⟩
theorem DS.find_is {s : DS} (h : s.Bas) {p d : Int} {o : Nat} (hl : liveB s.L p = true) (hw : s.waits p = false) (hf : s.F p d = some o) : s.find p d = .ok o := by
  obtain ⟨_, h2, h3, _⟩ := h.f p d o hf
  unfold DS.find DS.may
  rw [hl, hw]
  simp [h2, h3, hf]

section
variable {w : World} {kb tb mb : Nat} {g : Int} {P : Nat → Prop} {ι : Nat → Nat} {s : DS} {rv wv : Nat → Value} {qv : Value} {B : Nat}
set_option maxHeartbeats 4000000 in
set_option maxRecDepth 100000 in
theorem lock_any (h : KV w kb tb mb g P ι s rv wv qv) (hP : ∀ b, B ≤ b → P b) (hB : B ≤ w.heap.size) (hinv : s.Inv) (p d k f l : Int) (wait : Bool) (hnw : s.waits p = false) :
    Calls Tryz.prog 21 #[.pointer (some ⟨kb, 0, none⟩), .int .i64 p, .int .i64 d, .int .i64 k, .int .i64 f, .int .i64 l, .bool wait] w fun e w' => e = .returned (.int .i64 (s.lock0 p d k f l wait).2) ∧ (∃ rv' wv' qv', KV w' kb tb mb g P ι (s.lock0 p d k f l wait).1 rv' wv' qv') ∧ Kp [kb] w w' := by
  have HH := Hid.mk h
  by_cases he : s.readK p d k f l 0 = 0
  · obtain ⟨o, h1, h2, h3, h4, h5⟩ := readK_zero he
    have hao : s.AskOk ⟨p, k, s.O o, false, o, fromS f l, toS f l⟩ := DS.AskOk.lock hinv.toBas (DS.find_is hinv.toBas h1 hnw h2) (by simp [h3]) (by simp [h5])
    have HK0 : Hid (s.lock0 p d k f l wait = s.ask0 ⟨p, k, s.O o, false, o, fromS f l, toS f l⟩ wait) := by show _ = _; unfold DS.lock0; rw [if_neg (by simpa using he), h2]
    have HR := Hid.mk (read_ok h p d k f l 0 h1 h2 h3 h4 h5)
    have HA := Hid.mk (fun (W : World) (hb : Below w.heap.size w W) => ask_any (h.below hb) hP (by have := hb.size; omega) hinv ⟨p, k, s.O o, false, o, fromS f l, toS f l⟩ hao hnw wait)
    rw [HK0.out]
    generalize s.ask0 ⟨p, k, s.O o, false, o, fromS f l, toS f l⟩ wait = X at *
    rw [show askV (renA ι ⟨p, k, s.O o, false, o, fromS f l, toS f l⟩) = .agg #[.int .i64 p, .int .i64 (s.O o), .int .i64 p, .int .i64 k, .int .i64 (fromS f l), .int .i64 (toS f l), .pointer none, .int .i64 0] from rfl] at HA
    clear h he h1 h2 h3 h4 h5 hao HK0 hnw
    generalize fromS f l = fr at *
    generalize toS f l = to at *
    go_enter Tryz.func21, Tryz.ntmps21
    go_wp2_with (first
      | (go_at_call 39; refine HR.out.mono ?_; rintro e w1 ⟨rfl, hb1⟩; have hz1 := hb1.size; have HB1 := Hid.mk hb1; clear hb1)
      | (go_at_call 40; refine (HA.out _ (HB1.out.alloc hz1 _)).mono ?_; rintro e w2 ⟨rfl, hkv, hkp⟩; have HKV := Hid.mk hkv; have HKP := Hid.mk hkp; clear hkv hkp))
    go_ret
    exact ⟨rfl, HKV.out, (Kp.below (HB1.out.alloc hz1 _)).trans HKP.out⟩
  · have HK0 : Hid (s.lock0 p d k f l wait = (s, s.readK p d k f l 0)) := by show _ = _; unfold DS.lock0; rw [if_pos he]
    have HR := Hid.mk (read_err h p d k f l 0 he)
    rw [HK0.out]
    generalize s.readK p d k f l 0 = E at *
    have hE : (E != 0) = true := by simpa using he
    clear h he HK0
    go_enter Tryz.func21, Tryz.ntmps21
    go_wp2_with (go_at_call 39; refine HR.out.mono ?_; rintro e w1 ⟨rfl, hb1⟩; have hz1 := hb1.size; have HB1 := Hid.mk hb1; clear hb1)
    go_ret
    exact ⟨rfl, ⟨rv, wv, qv, HH.out.below (HB1.out.alloc hz1 _)⟩, Kp.below (HB1.out.alloc hz1 _)⟩

set_option maxHeartbeats 4000000 in
set_option maxRecDepth 100000 in
theorem whole_any (h : KV w kb tb mb g P ι s rv wv qv) (hP : ∀ b, B ≤ b → P b) (hB : B ≤ w.heap.size) (hinv : s.Inv) (p d k : Int) (wait : Bool) (hnw : s.waits p = false) :
    Calls Tryz.prog 25 #[.pointer (some ⟨kb, 0, none⟩), .int .i64 p, .int .i64 d, .int .i64 k, .bool wait] w fun e w' => e = .returned (.int .i64 (s.whole0 p d k wait).2) ∧ (∃ rv' wv' qv', KV w' kb tb mb g P ι (s.whole0 p d k wait).1 rv' wv' qv') ∧ Kp [kb] w w' := by
  have HH := Hid.mk h
  by_cases he : s.findK p d k 0 = 0
  · obtain ⟨o, h1, h2, h3, h4⟩ := findK_zero he
    have hao : s.AskOk ⟨p, k, s.O o, true, o, 0, 0⟩ := DS.AskOk.whole hinv.toBas (DS.find_is hinv.toBas h1 hnw h2) (by simp [h3])
    have HK0 : Hid (s.whole0 p d k wait = s.ask0 ⟨p, k, s.O o, true, o, 0, 0⟩ wait) := by show _ = _; unfold DS.whole0; rw [if_neg (by simpa using he), h2]
    have HR := Hid.mk (find_yes h p d k 0 h1 h2 h3 h4)
    have HFI := Hid.mk (fun (W : World) (hb : Below w.heap.size w W) => File_any ((h.below hb).o o (h.sm.f p d o h2)))
    have HA := Hid.mk (fun (W : World) (hb : Below w.heap.size w W) => ask_any (h.below hb) hP (by have := hb.size; omega) hinv ⟨p, k, s.O o, true, o, 0, 0⟩ hao hnw wait)
    rw [HK0.out]
    generalize s.ask0 ⟨p, k, s.O o, true, o, 0, 0⟩ wait = X at *
    rw [show askV (renA ι ⟨p, k, s.O o, true, o, 0, 0⟩) = .agg #[.int .i64 p, .int .i64 (s.O o), .int .i64 0, .int .i64 0, .int .i64 0, .int .i64 0, .pointer (some ⟨ι o, 0, none⟩), .int .i64 k] from rfl] at HA
    have HB0 : Hid (Below w.heap.size w (w.alloc (.cells #[.pointer (some ⟨ι o, 0, none⟩), .int .i64 k] 91))) := (Below.refl _ _).alloc (Nat.le_refl _) _
    have hkl := h.lt
    clear h he h1 h2 h3 h4 hao HK0 hnw
    go_enter Tryz.func25, Tryz.ntmps25
    go_upto_region 5 with (go_at_call 43; refine HR.out.mono ?_; rintro e w' ⟨rfl, hw⟩; have hw2 := hw.symm; clear hw; subst hw2)
    go_region_held3 (fun u => u.cell? ⟨w.heap.size, 0, none⟩ = some (.pointer (some ⟨ι o, 0, none⟩)) ∧ u.cell? ⟨w.heap.size, 1, none⟩ = some (.int .i64 k)) (simp [go_sem, *])
      (first
        | (go_at_call 44; refine (HFI.out _ HB0.out.drew).mono ?_; rintro e w' ⟨rfl, hw⟩; have hw2 := hw.symm; clear hw; subst hw2)
        | (go_at_call 40; refine (HA.out _ HB0.out.drew).mono ?_; rintro e w2 ⟨rfl, hkv, hkp⟩; have hbk := hkp.block w.heap.size (by simp) (by simp; omega); have j0 := (World.cell?_of_block (a := ⟨w.heap.size, 0, none⟩) hbk).trans (show _ = some (.pointer (some ⟨ι o, 0, none⟩)) by simp); have j1 := (World.cell?_of_block (a := ⟨w.heap.size, 1, none⟩) hbk).trans (show _ = some (.int .i64 k) by simp); have HKV := Hid.mk hkv; have HKP := Hid.mk hkp; clear hkv hkp hbk))
    go_wp2
    go_ret
    exact ⟨rfl, HKV.out, (Kp.below HB0.out.drew).trans HKP.out⟩
  · have HK0 : Hid (s.whole0 p d k wait = (s, s.findK p d k 0)) := by show _ = _; unfold DS.whole0; rw [if_pos he]
    have HR := Hid.mk (find_err h p d k 0 he)
    rw [HK0.out]
    generalize s.findK p d k 0 = E at *
    have hE : (E != 0) = true := by simpa using he
    clear h he HK0
    go_enter Tryz.func25, Tryz.ntmps25
    go_wp2_with (go_at_call 43; refine HR.out.mono ?_; rintro e w' ⟨rfl, hw⟩; have hw2 := hw.symm; clear hw; subst hw2)
    go_ret
    exact ⟨rfl, ⟨rv, wv, qv, HH.out⟩, Kp.refl _ _⟩
end
end Go.Proofs.YtaicdjhblbobbabGreat
