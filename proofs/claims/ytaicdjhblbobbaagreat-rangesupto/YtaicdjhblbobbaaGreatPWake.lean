/- Contract of the Kernel's wake: whose waiting ends next, and how. -/
import Derived.Test.YtaicdjhblbobbaaGreatPRen
import Derived.Test.YtaicdjhblbobbaaGreatPRowB
import Derived.Deep.LoopGhost
namespace Go.Proofs.YtaicdjhblbobbaaGreat
open Go.RowKit Go.Lib

theorem DS.free?_is {s : DS} {n : Nat} {a : Ask} (ha : s.Q[n]? = some a) (hw : s.way a (s.Q.take n) = []) (h : ∀ j b, j < n → s.Q[j]? = some b → s.way b (s.Q.take j) ≠ []) : s.free? = some n := by
  cases hf : s.free? with
  | none => exact absurd hw (DS.free?_none hf n a ha)
  | some m =>
    obtain ⟨b, hb, hwb, hmin⟩ := DS.free?_some hf
    rcases Nat.lt_trichotomy m n with e | e | e
    · exact absurd hwb (h m b e hb)
    · rw [e]
    · exact absurd hw (hmin n a e ha)
theorem DS.free?_no {s : DS} (h : ∀ j b, s.Q[j]? = some b → s.way b (s.Q.take j) ≠ []) : s.free? = none := by
  cases hf : s.free? with
  | none => rfl
  | some m =>
    obtain ⟨b, hb, hwb, _⟩ := DS.free?_some hf
    exact absurd hwb (h m b hb)
/-- What wake tells, and the state behind it. -/
structure Wk where
  p : Int
  f : Int
  ok : Bool
  t : DS
def DS.wakeR (s : DS) : Wk := match s.wake? with
  | none => ⟨0, 10, false, s⟩
  | some (p, t, f) => ⟨p, f, true, t⟩
theorem DS.wakeR_free {s : DS} {n : Nat} {a : Ask} (ha : s.Q[n]? = some a) (hf : s.free? = some n) : s.wakeR = ⟨a.p, (s.take a).2, true, (s.take a).1⟩ := by
  unfold DS.wakeR DS.wake?
  simp only [hf, ha, Option.getD_some]
theorem DS.wakeR_last {s : DS} (h : s.Bas) (hf : s.free? = none) : s.wakeR = ⟨(lastP s.wts).getD 0, 10, (lastP s.wts).isSome, s⟩ := by
  rw [lastP_eq h.ones (DS.wts_is h.ones)]
  unfold DS.wakeR DS.wake?
  simp only [hf]
  cases s.last? with
  | none => rfl
  | some i => rfl

set_option maxHeartbeats 8000000 in
set_option maxRecDepth 100000 in
theorem wake_any {w : World} {kb tb mb : Nat} {g : Int} {P : Nat → Prop} {ι : Nat → Nat} {s : DS} {rv wv : Nat → Value} {qv : Value} {B : Nat} (h : KV w kb tb mb g P ι s rv wv qv) (hP : ∀ b, B ≤ b → P b) (hB : B ≤ w.heap.size) (hbas : s.Bas) :
    Calls Tryz.prog 130 #[.pointer (some ⟨kb, 0, none⟩)] w fun e w' => e = .returned (.tuple #[.int .i64 s.wakeR.p, .int .i64 s.wakeR.f, .bool s.wakeR.ok]) ∧ (∃ rv' wv', KV w' kb tb mb g P ι s.wakeR.t rv' wv' qv) ∧ Kp [kb] w w' := by
  have hql := h.sm.ql
  have hown := h.q
  obtain ⟨qa, qc, rfl⟩ := own_form h.q
  rw [renQ_len] at *
  have hkl := h.lt
  have H9 := Hid.mk (fun (W : World) (hb : Below w.heap.size w W) => (hb.cell (p := ⟨kb, 9, none⟩) hkl).trans h.c9)
  have HWY := Hid.mk (fun (W : World) (hb : Below w.heap.size w W) (n : Nat) (a : Ask) (hx : s.Q[n]? = some a) => by
    have hn : n < s.Q.length := (List.getElem?_eq_some_iff.1 hx).1
    have hcut : W.ownsRow 0 137 8 (.slice qa n qc) (renQ ι (s.Q.take n)).length (flatQ (renQ ι (s.Q.take n))) := by
      have h1 := own_below hown hb
      obtain ⟨gq, rfl, _⟩ := own_some h1 (by omega)
      have h2 := own_cut h1 (k := n) (by omega)
      rw [renQ_len, renQ_take, ← DelInv.flat (by rw [renQ_len]; omega), List.length_take, Nat.min_eq_left (by omega)]
      exact h2
    exact ways_any (h.below hb) a (h.sm.q a (List.mem_of_getElem? hx)) (.slice qa n qc) (s.Q.take n) (fun b hb => h.sm.q b (List.mem_of_mem_take hb)) (by rw [List.length_take]; omega) hcut)
  have HGV := Hid.mk (fun (W : World) (hb : Below w.heap.size w W) (n : Nat) (a : Ask) (hx : s.Q[n]? = some a) (hw : s.way a (s.Q.take n) = []) =>
    give_any (h.below hb) hP (by have := hb.size; omega) a (h.sm.q a (List.mem_of_getElem? hx)) (hbas.take (hbas.q a (List.mem_of_getElem? hx)).1 (DS.Clear.of_way hbas hw)).sm)
  have HLS := Hid.mk (fun (W : World) (hb : Below w.heap.size w W) => lastStuck_any (h.below hb) (.slice qa s.Q.length qc) s.Q h.sm.q (by omega) (own_below (by rw [renQ_len]; exact hown) hb))
  have HNIL := Hid.mk (fun (n : Nat) (a : Ask) (hx : s.Q[n]? = some a) => DS.wayP_nil (s := s) (hbas.ones.ahead hx))
  have HV := Hid.mk hown
  have HH := Hid.mk h
  have HBA := Hid.mk hbas
  clear h hbas hown
  go_enter Tryz.func130, Tryz.ntmps130
  have h9 := H9.out w (Below.refl _ _)
  go_wp2
  go_loopw [5, 14] (fun _ s14 wr => ∃ (n : Nat), s14 = .int .i64 n ∧ n ≤ s.Q.length ∧ Hid (∀ j b, j < n → s.Q[j]? = some b → s.way b (s.Q.take j) ≠ []) ∧ Hid (Below w.heap.size w wr)) (fun _ s14 _ => s.Q.length - (intOf s14).toNat)
  case atStart => exact ⟨0, rfl, Nat.zero_le _, fun j b hj => absurd hj (Nat.not_lt_zero _), Below.refl _ _⟩
  case round =>
    obtain ⟨n, rfl, hn, HF, HBr⟩ := hrel
    have hsz : w.heap.size ≤ wr.heap.size := HBr.out.size
    have h9r := H9.out wr HBr.out
    have hkr : kb < wr.heap.size := by omega
    by_cases hlt : n < s.Q.length
    · obtain ⟨x, hx⟩ : ∃ x, s.Q[n]? = some x := ⟨_, List.getElem?_eq_getElem hlt⟩
      have hv2 := HV.out
      obtain ⟨gb, rfl, _, hg, hqc, hat⟩ := askAt (l := renQ ι s.Q) (a := qa) (c := qc) (by rw [renQ_len]; exact hv2) (renQ_get hx)
      obtain ⟨c0, c1, c2, c3, c4, c5, c6, c7⟩ := hat.below HBr.out hg
      rw [renQ_len] at hqc
      have hlt' : (n : Int) < (s.Q.length : Int) := by omega
      have hgw : gb < wr.heap.size := by omega
      have hnc : (n : Int) ≤ (qc : Int) := by omega
      have hnc2 : n ≤ qc := by omega
      have hc := fun (W : World) (hb : Below w.heap.size w W) => HWY.out W hb n x hx
      have hgv := fun (W : World) (hb : Below w.heap.size w W) => HGV.out W hb n x hx
      have hnil := HNIL.out n x hx
      unfold askV at hc hgv
      have HC := Hid.mk hc
      have HG := Hid.mk hgv
      have HX := Hid.mk hx
      clear hat hx hv2 hc hgv HWY HGV HNIL
      unfold ptrV at *
      generalize (renA ι x).ow.map (fun b => (⟨b, 0, none⟩ : Addr)) = A at *
      simp only [renA_rn, renA_wk, renA_p, renA_file] at HC HG c0 c1 c2 c3 c4 c5 c6 c7
      by_cases hemp : s.wayP x (s.Q.take n) = []
      · have HE := Hid.mk (hnil.1 hemp)
        rw [hemp] at HC
        clear hemp hnil
        go_upto_region 4 with fail
        go_region_held3 (fun u => u.cell? ⟨kb, 9, none⟩ = some (.slice (some ⟨gb, 0, none⟩) s.Q.length qc) ∧ u.cell? ⟨wr.heap.size, 0, none⟩ = some (.int .i64 x.p) ∧ u.cell? ⟨wr.heap.size, 1, none⟩ = some (.int .i64 x.file) ∧ u.cell? ⟨wr.heap.size, 2, none⟩ = some (.int .i64 x.rn.p) ∧ u.cell? ⟨wr.heap.size, 3, none⟩ = some (.int .i64 x.rn.k) ∧ u.cell? ⟨wr.heap.size, 4, none⟩ = some (.int .i64 x.rn.f) ∧ u.cell? ⟨wr.heap.size, 5, none⟩ = some (.int .i64 x.rn.t) ∧ u.cell? ⟨wr.heap.size, 6, none⟩ = some (.pointer A) ∧ u.cell? ⟨wr.heap.size, 7, none⟩ = some (.int .i64 x.wk)) (simp [go_sem, World.cell?_alloc_past, *])
          (first
            | (go_at_call 110; refine (HC.out _ ?_).mono ?_; exact (HBr.out.alloc hsz _).drew; rintro e w3 ⟨v3, us3, rfl, hwy, hb3⟩; obtain ⟨a3, c3, rfl⟩ := own_form hwy.own; have hz3 := hb3.size; simp at hz3; have hww : wr.heap.size < w3.heap.size := (by omega); have k9 : w3.cell? ⟨kb, 9, none⟩ = some (.slice (some ⟨gb, 0, none⟩) s.Q.length qc) := ((bcells hb3).1 _ _ (by simp <;> omega)).trans ((World.cell?_alloc_past (w := wr) _ kb 9 hkr).trans h9r); have k0 : w3.cell? ⟨wr.heap.size, 0, none⟩ = some (.int .i64 x.p) := ((bcells hb3).1 _ _ (by simp)).trans (by simp); have k1 : w3.cell? ⟨wr.heap.size, 1, none⟩ = some (.int .i64 x.file) := ((bcells hb3).1 _ _ (by simp)).trans (by simp); have k2 : w3.cell? ⟨wr.heap.size, 2, none⟩ = some (.int .i64 x.rn.p) := ((bcells hb3).1 _ _ (by simp)).trans (by simp); have k3 : w3.cell? ⟨wr.heap.size, 3, none⟩ = some (.int .i64 x.rn.k) := ((bcells hb3).1 _ _ (by simp)).trans (by simp); have k4 : w3.cell? ⟨wr.heap.size, 4, none⟩ = some (.int .i64 x.rn.f) := ((bcells hb3).1 _ _ (by simp)).trans (by simp); have k5 : w3.cell? ⟨wr.heap.size, 5, none⟩ = some (.int .i64 x.rn.t) := ((bcells hb3).1 _ _ (by simp)).trans (by simp); have k6 : w3.cell? ⟨wr.heap.size, 6, none⟩ = some (.pointer A) := ((bcells hb3).1 _ _ (by simp)).trans (by simp); have k7 : w3.cell? ⟨wr.heap.size, 7, none⟩ = some (.int .i64 x.wk) := ((bcells hb3).1 _ _ (by simp)).trans (by simp); have HBW : Hid (Below w.heap.size w w3) := ((HBr.out.alloc hsz _).drew).trans (hb3.mono (by simp; omega)); clear hwy hb3))
        go_upto_region 5 with fail
        go_region_held3 (fun u => u.cell? ⟨wr.heap.size, 0, none⟩ = some (.int .i64 x.p) ∧ u.cell? ⟨wr.heap.size, 1, none⟩ = some (.int .i64 x.file) ∧ u.cell? ⟨wr.heap.size, 2, none⟩ = some (.int .i64 x.rn.p) ∧ u.cell? ⟨wr.heap.size, 3, none⟩ = some (.int .i64 x.rn.k) ∧ u.cell? ⟨wr.heap.size, 4, none⟩ = some (.int .i64 x.rn.f) ∧ u.cell? ⟨wr.heap.size, 5, none⟩ = some (.int .i64 x.rn.t) ∧ u.cell? ⟨wr.heap.size, 6, none⟩ = some (.pointer A) ∧ u.cell? ⟨wr.heap.size, 7, none⟩ = some (.int .i64 x.wk)) (simp [go_sem, *])
          (first
            | (go_at_call 111; refine (HG.out _ HBW.out.drew HE.out).mono ?_; rintro e w4 ⟨rfl, hkv, hkp⟩; have hbk := hkp.block wr.heap.size hww (by simp; omega); have j0 := (World.cell?_of_block (a := ⟨wr.heap.size, 0, none⟩) hbk).trans k0; have j1 := (World.cell?_of_block (a := ⟨wr.heap.size, 1, none⟩) hbk).trans k1; have j2 := (World.cell?_of_block (a := ⟨wr.heap.size, 2, none⟩) hbk).trans k2; have j3 := (World.cell?_of_block (a := ⟨wr.heap.size, 3, none⟩) hbk).trans k3; have j4 := (World.cell?_of_block (a := ⟨wr.heap.size, 4, none⟩) hbk).trans k4; have j5 := (World.cell?_of_block (a := ⟨wr.heap.size, 5, none⟩) hbk).trans k5; have j6 := (World.cell?_of_block (a := ⟨wr.heap.size, 6, none⟩) hbk).trans k6; have j7 := (World.cell?_of_block (a := ⟨wr.heap.size, 7, none⟩) hbk).trans k7; have HKV := Hid.mk hkv; have HKP : Hid (Kp [kb] w w4) := (Kp.below HBW.out.drew).trans hkp; clear hkv hkp hbk))
        go_wp2
        have HR := Hid.mk (DS.wakeR_free HX.out (DS.free?_is HX.out HE.out HF.out))
        refine bodyPost_ret (v := .tuple #[.int .i64 x.p, .int .i64 (s.take x).2, .bool true]) ?_ rfl ?_
        · simp [results, Tryz.results130, go_sem]
        · rw [HR.out]
          exact ⟨rfl, HKV.out, HKP.out⟩
      · have HE : Hid (s.way x (s.Q.take n) ≠ []) := fun e => hemp (hnil.2 e)
        have hpos : 0 < (s.wayP x (s.Q.take n)).length := List.length_pos_iff.2 hemp
        generalize s.wayP x (s.Q.take n) = WL at *
        clear hemp hnil
        go_upto_region 4 with fail
        go_region_held3 (fun u => u.cell? ⟨kb, 9, none⟩ = some (.slice (some ⟨gb, 0, none⟩) s.Q.length qc) ∧ u.cell? ⟨wr.heap.size, 0, none⟩ = some (.int .i64 x.p) ∧ u.cell? ⟨wr.heap.size, 1, none⟩ = some (.int .i64 x.file) ∧ u.cell? ⟨wr.heap.size, 2, none⟩ = some (.int .i64 x.rn.p) ∧ u.cell? ⟨wr.heap.size, 3, none⟩ = some (.int .i64 x.rn.k) ∧ u.cell? ⟨wr.heap.size, 4, none⟩ = some (.int .i64 x.rn.f) ∧ u.cell? ⟨wr.heap.size, 5, none⟩ = some (.int .i64 x.rn.t) ∧ u.cell? ⟨wr.heap.size, 6, none⟩ = some (.pointer A) ∧ u.cell? ⟨wr.heap.size, 7, none⟩ = some (.int .i64 x.wk)) (simp [go_sem, World.cell?_alloc_past, *])
          (first
            | (go_at_call 110; refine (HC.out _ ?_).mono ?_; exact (HBr.out.alloc hsz _).drew; rintro e w3 ⟨v3, us3, rfl, hwy, hb3⟩; obtain ⟨a3, c3, rfl⟩ := own_form hwy.own; have hz3 := hb3.size; simp at hz3; have hww : wr.heap.size < w3.heap.size := (by omega); have k9 : w3.cell? ⟨kb, 9, none⟩ = some (.slice (some ⟨gb, 0, none⟩) s.Q.length qc) := ((bcells hb3).1 _ _ (by simp <;> omega)).trans ((World.cell?_alloc_past (w := wr) _ kb 9 hkr).trans h9r); have k0 : w3.cell? ⟨wr.heap.size, 0, none⟩ = some (.int .i64 x.p) := ((bcells hb3).1 _ _ (by simp)).trans (by simp); have k1 : w3.cell? ⟨wr.heap.size, 1, none⟩ = some (.int .i64 x.file) := ((bcells hb3).1 _ _ (by simp)).trans (by simp); have k2 : w3.cell? ⟨wr.heap.size, 2, none⟩ = some (.int .i64 x.rn.p) := ((bcells hb3).1 _ _ (by simp)).trans (by simp); have k3 : w3.cell? ⟨wr.heap.size, 3, none⟩ = some (.int .i64 x.rn.k) := ((bcells hb3).1 _ _ (by simp)).trans (by simp); have k4 : w3.cell? ⟨wr.heap.size, 4, none⟩ = some (.int .i64 x.rn.f) := ((bcells hb3).1 _ _ (by simp)).trans (by simp); have k5 : w3.cell? ⟨wr.heap.size, 5, none⟩ = some (.int .i64 x.rn.t) := ((bcells hb3).1 _ _ (by simp)).trans (by simp); have k6 : w3.cell? ⟨wr.heap.size, 6, none⟩ = some (.pointer A) := ((bcells hb3).1 _ _ (by simp)).trans (by simp); have k7 : w3.cell? ⟨wr.heap.size, 7, none⟩ = some (.int .i64 x.wk) := ((bcells hb3).1 _ _ (by simp)).trans (by simp); have HBW : Hid (Below w.heap.size w w3) := ((HBr.out.alloc hsz _).drew).trans (hb3.mono (by simp; omega)); clear hwy hb3))
        go_wp2
        go_roundw
        case rel =>
          refine ⟨n + 1, by go_num, by omega, fun j b hj hb => ?_, HBW.out⟩
          by_cases e : j = n
          · subst e
            have := HX.out.symm.trans hb
            cases this
            exact HE.out
          · exact HF.out j b (by omega) hb
        case measure => simp [intOf]; omega
    · obtain rfl : n = s.Q.length := by omega
      have HFN : Hid (s.free? = none) := DS.free?_no fun j b hb => HF.out j b (List.getElem?_eq_some_iff.1 hb).1 hb
      have HR := Hid.mk (DS.wakeR_last HBA.out HFN.out)
      have HL := Hid.mk (HLS.out wr HBr.out)
      change Hid (Calls _ _ _ _ fun e w' => e = .returned (.tuple #[.int .i64 ((lastP s.wts).getD 0), .bool (lastP s.wts).isSome]) ∧ _) at HL
      generalize lastP s.wts = lp at *
      clear HWY HGV HNIL HLS
      go_wp2_with (go_at_call 113; refine HL.out.mono ?_; rintro e w3 ⟨rfl, hb3⟩; have HB3 := Hid.mk hb3; clear hb3)
      refine bodyPost_ret (v := .tuple #[.int .i64 (lp.getD 0), .int .i64 10, .bool lp.isSome]) ?_ rfl ?_
      · simp [results, Tryz.results130, go_sem]
      · rw [HR.out]
        have hbw := HBr.out.trans (HB3.out.mono hsz)
        exact ⟨rfl, ⟨rv, wv, HH.out.below hbw⟩, Kp.below hbw⟩
end Go.Proofs.YtaicdjhblbobbaaGreat

/- Contract of the Kernel's settle: who waits no more. -/
namespace Go.Proofs.YtaicdjhblbobbaaGreat
open Go.RowKit Go.Lib

theorem Tryz.infoDone : (Tryz.prog.info? 57).map (fun i => (i.zero, i.size, i.bytes)) = some (some (.agg #[.int .i64 0, .int .i64 0]), 2, 16) := by kernel_rfl
theorem flatD_snoc (l : List Dn) (d : Dn) : flatD (l ++ [d]) = flatD l ++ [.int .i64 d.p, .int .i64 d.e] := by simp [flatD, Dn.cells]
theorem Kp.belowB {bs : List Nat} {w w1 w2 : World} (h : Kp bs w w1) (hb : Below w.heap.size w1 w2) : Kp bs w w2 := ⟨hb.os.trans h.os, hb.tape.trans h.tape, hb.output.trans h.output, Nat.le_trans h.size hb.size, fun k hk hn => (hb.block k hk).trans (h.block k hk hn)⟩
/-- Where wake ends one's waiting. -/
theorem DS.settle_step {s : DS} (h : s.Bas) : (s.wakeR.ok = false → s.settle = (s, []) ∧ s.wakeR.t = s) ∧ (s.wakeR.ok = true → s.wakeR.t.Bas ∧ s.wakeR.t.Q = s.Q ∧ DS.Bas {s.wakeR.t with Q := s.wakeR.t.Q.filter fun b => decide (b.p ≠ s.wakeR.p)} ∧ (s.wakeR.t.Q.filter fun b => decide (b.p ≠ s.wakeR.p)).length < s.Q.length ∧
    s.settle = ((DS.settle {s.wakeR.t with Q := s.wakeR.t.Q.filter fun b => decide (b.p ≠ s.wakeR.p)}).1, ⟨s.wakeR.p, s.wakeR.f⟩ :: (DS.settle {s.wakeR.t with Q := s.wakeR.t.Q.filter fun b => decide (b.p ≠ s.wakeR.p)}).2)) := by
  have hk := DS.settle_wake h
  unfold DS.wakeR
  cases hw : s.wake? with
  | none =>
    rw [hw] at hk
    exact ⟨fun _ => ⟨hk, rfl⟩, fun e => absurd e (by simp)⟩
  | some x =>
    obtain ⟨p, t, f⟩ := x
    rw [hw] at hk
    obtain ⟨h1, h2, _, h4, h5, h6⟩ := hk
    exact ⟨fun e => absurd e (by simp), fun _ => ⟨h1, h2, h4, h5, h6⟩⟩

set_option maxHeartbeats 8000000 in
set_option maxRecDepth 100000 in
theorem settle_any {w : World} {kb tb mb : Nat} {g : Int} {P : Nat → Prop} {ι : Nat → Nat} {s : DS} {rv wv : Nat → Value} {qv : Value} {B : Nat} (h : KV w kb tb mb g P ι s rv wv qv) (hP : ∀ b, B ≤ b → P b) (hB : B ≤ w.heap.size) (hbas : s.Bas) :
    Calls Tryz.prog 87 #[.pointer (some ⟨kb, 0, none⟩)] w fun e w' => ∃ v', e = .returned v' ∧ w'.ownsRow w.heap.size 57 2 v' s.settle.2.length (flatD s.settle.2) ∧ (∃ rv' wv' qv', KV w' kb tb mb g P ι s.settle.1 rv' wv' qv') ∧ Kp [kb] w w' := by
  have HKV := Hid.mk h
  have HBA := Hid.mk hbas
  have hkl := h.lt
  have hQ6 := h.sm.ql
  clear h hbas
  go_enter Tryz.func87, Tryz.ntmps87
  go_wp2
  go_loopg [3, 4, 5, 6] s.Q.length (fun gm s3 _ _ _ wr => ∃ (t : DS) (D : List Dn) (rv' wv' : Nat → Value) (qv' : Value), gm = t.Q.length ∧ D.length + t.Q.length ≤ s.Q.length ∧ Hid (KV wr kb tb mb g P ι t rv' wv' qv') ∧ Hid t.Bas ∧ Hid (s.settle = (t.settle.1, D ++ t.settle.2)) ∧ Hid (wr.ownsRow w.heap.size 57 2 s3 D.length (flatD D)) ∧ Hid (Kp [kb] w wr))
  case atStart => exact ⟨s, [], rv, wv, qv, rfl, by simp, HKV.out, HBA.out, rfl, World.ownsRow_nil _ _ _ _, Kp.refl _ _⟩
  case round =>
    obtain ⟨t, D, rv', wv', qv', rfl, hDl, HK, HT, HS, HO, HP⟩ := hrel
    have hsz : w.heap.size ≤ wr.heap.size := HP.out.size
    have HW := Hid.mk (wake_any HK.out hP (by omega) HT.out)
    obtain ⟨st0, st1⟩ := DS.settle_step HT.out
    have H0 := Hid.mk st0
    have H1 := Hid.mk st1
    clear st0 st1
    generalize t.wakeR = R at *
    obtain ⟨rp, rf, rok, rt⟩ := R
    simp only at HW H0 H1
    cases rok
    · obtain ⟨hz1, hz2⟩ := H0.out rfl
      have HE := Hid.mk hz1
      have HE2 := Hid.mk hz2
      clear hz1 hz2
      go_wp2_with (go_at_call 130; refine HW.out.mono ?_; rintro e w1 ⟨rfl, hkv, hkp⟩; have HK1 := Hid.mk hkv; have HP1 := Hid.mk hkp; clear hkv hkp)
      go_ret
      have hs := HS.out
      rw [HE.out] at hs
      simp only [List.append_nil] at hs
      rw [hs]
      obtain ⟨rv2, wv2, hk2⟩ := HK1.out
      rw [HE2.out] at hk2
      refine ⟨_, rfl, own_blk HO.out fun b e => HP1.out.block b (HO.out.lt b e).2 ?_, ⟨rv2, wv2, qv', hk2⟩, HP.out.trans HP1.out⟩
      have := (HO.out.lt b e).1
      simp
      omega
    · obtain ⟨hb1, hq1, hb2, hl2, hs2⟩ := H1.out rfl
      have HB2 := Hid.mk hb2
      have HL2 := Hid.mk hl2
      have HS2 := Hid.mk hs2
      clear hb1 hb2 hl2 hs2 hq1
      have hDs : D.length < 1000 := by omega
      generalize hqf : (rt.Q.filter fun b => decide (b.p ≠ rp)) = QF at *
      have HQF := Hid.mk hqf
      clear hqf H0 H1
      obtain ⟨da, dc, rfl⟩ := own_form HO.out
      go_wp2_with (first
        | (go_at_call 130; refine HW.out.mono ?_; rintro e w1 ⟨rfl, ⟨rv2, wv2, hkv⟩, hkp⟩; obtain ⟨qa, qc, rfl⟩ := own_form hkv.q; have c9 := hkv.c9; have f9 := hkv.frz 9; have hk1 := hkv.lt; have hz1 := hkp.size; have HQ := Hid.mk (qWithout_any rp hkv.q (by rw [renQ_len]; have := hkv.sm.ql; omega)); rw [renQ_filter, HQF.out] at HQ; have HK1 := Hid.mk hkv; have HP1 := Hid.mk hkp; clear hkv hkp)
        | (go_at_call 89; refine HQ.out.mono ?_; rintro e w2 ⟨v2, rfl, ho2, hb2⟩; obtain ⟨a2, c2, rfl⟩ := own_form ho2; have hz2 := hb2.size; have d9 := (hb2.cell (p := ⟨kb, 9, none⟩) hk1).trans c9; have e9 := (hb2.frozen (p := ⟨kb, 9, none⟩) hk1).trans f9; have HO2 := Hid.mk ho2; have HB2' := Hid.mk hb2; have HKP : Hid (Kp [kb] wr (w2.setCell ⟨kb, 9, none⟩ (.slice a2 (renQ ι QF).length c2))) := HP1.out.trans (Kp.of_setCell hb2 (by simp) _); have HOD : Hid ((w2.setCell ⟨kb, 9, none⟩ (.slice a2 (renQ ι QF).length c2)).ownsRow w.heap.size 57 2 (.slice da D.length dc) D.length (flatD D)) := own_blk HO.out (fun b e => HKP.out.block b (HO.out.lt b e).2 (by have := (HO.out.lt b e).1; simp; omega)); clear ho2 hb2)
        | (at_builtin; refine wpList_snoc rfl _ _ _ rfl Tryz.underlying32 Tryz.infoDone rfl (by decide) (by decide) rfl HOD.out (by simp; omega) (by omega) (cs := #[.int .i64 rp, .int .i64 rf]) rfl (by simp) rfl (by simp [Value.oneCell']) ?_; intro v4 w4 ho4 hb4 hz4 hold4; have HO4 := Hid.mk ho4; have HB4 := Hid.mk hb4; have HOL := Hid.mk hold4; clear ho4 hb4 hold4))
      have hKV3 := (HK1.out.below HB2'.out).setQueue (v := .slice a2 (renQ ι QF).length c2) (l := QF) (own_mono HO2.out (Nat.zero_le _)) (fun b e => hP b (by have := (HO2.out.lt b e).1; omega)) HB2.out.sm
      have HKV3 := Hid.mk hKV3
      clear hKV3
      go_roundg QF.length
      case measure => exact HL2.out
      case rel =>
        refine ⟨{rt with Q := QF}, D ++ [⟨rp, rf⟩], rv2, wv2, .slice a2 (renQ ι QF).length c2, rfl, ?_, ?_, HB2.out, ?_, ?_, ?_⟩
        · have := HL2.out
          simp only [List.length_append, List.length_cons, List.length_nil]
          omega
        · exact HKV3.out.but (t2 := 57) (by decide) (by decide) (by decide) (by decide) (by decide) (by decide) (own_but HOD.out HOL.out)
        · have hs := HS.out
          rw [HS2.out] at hs
          show s.settle = _
          rw [hs]
          simp
        · rw [List.length_append, flatD_snoc]
          exact HO4.out
        · exact (HP.out.trans HKP.out).belowB HB4.out
end Go.Proofs.YtaicdjhblbobbaaGreat

/- Contract of the Kernel's answer: the reply, and who waits no more. -/
namespace Go.Proofs.YtaicdjhblbobbaaGreat
open Go.RowKit Go.Lib

theorem own_api {w w' : World} {base : Nat} {sz : Nat} {t2 t : TypeId} {v : Value} {n : Nat} {xs : List Value} (h : w.ownsRow base t sz v n xs) (hne : t2 ≠ t) (hold : ∀ b, b < w.heap.size → (∀ cur fr, w.heap[b]? ≠ some (.cells cur t2 fr)) → w'.heap[b]? = w.heap[b]?) : w'.ownsRow base t sz v n xs :=
  own_blk h fun b e => by
    obtain ⟨cur, hc⟩ := own_tag h e
    exact hold b (h.lt b e).2 fun c fr e2 => by rw [hc] at e2; cases e2; exact hne rfl
theorem setCell_but {w : World} {b : Nat} {cs : Array Value} {t2 : TypeId} {fr : Nat × Nat} (hb : w.heap[b]? = some (.cells cs t2 fr)) (o : Nat) (v : Value) : ∀ k, k < w.heap.size → (∀ cur fr, w.heap[k]? ≠ some (.cells cur t2 fr)) → (w.setCell ⟨b, o, none⟩ v).heap[k]? = w.heap[k]? :=
  fun k _ hn => Below.heap_setCell _ _ _ _ fun e => hn cs fr (by rw [e]; exact hb)

section
variable {w : World} {kb tb mb : Nat} {g : Int} {P : Nat → Prop} {ι : Nat → Nat} {s : DS} {rv wv : Nat → Value} {qv : Value} {B : Nat}
/-- The Kernel stands while a reply is stored into its own block. -/
theorem KV.reply (h : KV w kb tb mb g P ι s rv wv qv) {b : Nat} {cs : Array Value} {fr : Nat × Nat} (hb : w.heap[b]? = some (.cells cs 34 fr)) (o : Nat) (v : Value) : KV (w.setCell ⟨b, o, none⟩ v) kb tb mb g P ι s rv wv qv :=
  h.but (t2 := 34) (by decide) (by decide) (by decide) (by decide) (by decide) (by decide) (setCell_but hb o v)
theorem Kp.newCell {bs : List Nat} {w w' : World} (h : Kp bs w w') {a : Addr} (ha : w.heap.size ≤ a.block) (v : Value) : Kp bs w (w'.setCell a v) :=
  ⟨h.os, h.tape, h.output, by simpa using h.size, fun k hk hn => (Below.heap_setCell _ _ _ _ (by omega)).trans (h.block k hk hn)⟩

theorem reply_block {w : World} {b : Nat} {x y z : Value} (h : w.heap[b]? = some (.cells #[x, y, z] 34 (0, 0))) :
    w.cell? ⟨b, 0, none⟩ = some x ∧ w.cell? ⟨b, 1, none⟩ = some y ∧ w.cell? ⟨b, 2, none⟩ = some z ∧ ∀ o, w.frozen? ⟨b, o, none⟩ = false := by
  refine ⟨?_, ?_, ?_, fun o => ?_⟩ <;> simp [World.cell?, World.frozen?, h]
theorem reply_set {w : World} {b : Nat} {x y z : Value} (h : w.heap[b]? = some (.cells #[x, y, z] 34 (0, 0))) (v0 v1 v2 : Value) :
    (((w.setCell ⟨b, 0, none⟩ v0).setCell ⟨b, 1, none⟩ v1).setCell ⟨b, 2, none⟩ v2).heap[b]? = some (.cells #[v0, v1, v2] 34 (0, 0)) := by
  rw [heap_setCell_at (heap_setCell_at (heap_setCell_at h))]; rfl
theorem KV.reply3 (h : KV w kb tb mb g P ι s rv wv qv) {b : Nat} {x y z : Value} (hb : w.heap[b]? = some (.cells #[x, y, z] 34 (0, 0))) (v0 v1 v2 : Value) : KV (((w.setCell ⟨b, 0, none⟩ v0).setCell ⟨b, 1, none⟩ v1).setCell ⟨b, 2, none⟩ v2) kb tb mb g P ι s rv wv qv :=
  ((h.reply hb 0 v0).reply (heap_setCell_at hb) 1 v1).reply (heap_setCell_at (heap_setCell_at hb)) 2 v2
theorem own_reply {b : Nat} {cs : Array Value} {fr : Nat × Nat} {base sz n : Nat} {t : TypeId} {v : Value} {xs : List Value} (h : w.ownsRow base t sz v n xs) (hb : w.heap[b]? = some (.cells cs 34 fr)) (ht : 34 ≠ t) (o : Nat) (u : Value) : (w.setCell ⟨b, o, none⟩ u).ownsRow base t sz v n xs :=
  own_api h ht (setCell_but hb o u)
theorem own_reply3 {b : Nat} {x y z : Value} {base sz n : Nat} {t : TypeId} {v : Value} {xs : List Value} (h : w.ownsRow base t sz v n xs) (hb : w.heap[b]? = some (.cells #[x, y, z] 34 (0, 0))) (ht : 34 ≠ t) (v0 v1 v2 : Value) : (((w.setCell ⟨b, 0, none⟩ v0).setCell ⟨b, 1, none⟩ v1).setCell ⟨b, 2, none⟩ v2).ownsRow base t sz v n xs :=
  own_reply (own_reply (own_reply h hb ht 0 v0) (heap_setCell_at hb) ht 1 v1) (heap_setCell_at (heap_setCell_at hb)) ht 2 v2

set_option maxHeartbeats 4000000 in
set_option maxRecDepth 100000 in
theorem answer_any (h : KV w kb tb mb g P ι s rv wv qv) (hP : ∀ b, B ≤ b → P b) (hB : B ≤ w.heap.size) (hbas : s.Bas) (n f : Int) :
    Calls Tryz.prog 57 #[.pointer (some ⟨kb, 0, none⟩), .int .i64 n, .int .i64 f] w fun e w' => ∃ v, e = .returned (rpV (s.done n f).2 v) ∧ w'.ownsRow w.heap.size 57 2 v (s.done n f).2.d.length (flatD (s.done n f).2.d) ∧ (∃ rv' wv' qv', KV w' kb tb mb g P ι (s.done n f).1 rv' wv' qv') ∧ Kp [kb] w w' := by
  have HH := Hid.mk h
  have HBA := Hid.mk hbas
  have hkl := h.lt
  have hb0 : Below w.heap.size w ((w.alloc (.cells #[.int .i64 0, .int .i64 0, .slice none 0 0] 34)).alloc (.cells #[.int .i64 f, .int .i64 n, .slice none 0 0] 34)) := ((Below.refl _ _).alloc (Nat.le_refl _) _).alloc (by simp) _
  have HB0 := Hid.mk hb0
  by_cases hf : f = 0
  · have HE : Hid (s.done n f = (s.settle.1, ⟨0, n, s.settle.2⟩)) := by show _ = _; unfold DS.done; rw [if_pos hf]
    rw [HE.out]
    have HS := Hid.mk (settle_any (h.below hb0) hP (by have := hb0.size; omega) hbas)
    subst hf
    clear h hbas hb0 HE
    go_enter Tryz.func57, Tryz.ntmps57
    go_wp2_with (go_at_call 87; refine HS.out.mono ?_; rintro e w2 ⟨v2, rfl, ho2, ⟨rv', wv', qv', hkv⟩, hkp⟩; obtain ⟨a2, c2, rfl⟩ := own_form ho2; have hz2 := hkp.size; simp at hz2; have HX0 : Hid (w2.heap[w.heap.size]? = some (.cells #[.int .i64 0, .int .i64 0, .slice none 0 0] 34 (0, 0))) := (hkp.block w.heap.size (by simp <;> omega) (by simp; omega)).trans ((Below.heap_alloc _ _ _ (by simp)).trans (heap_alloc_new w _)); have HX1 : Hid (w2.heap[w.heap.size + 1]? = some (.cells #[.int .i64 0, .int .i64 n, .slice none 0 0] 34 (0, 0))) := (hkp.block (w.heap.size + 1) (by simp) (by simp; omega)).trans (by have := heap_alloc_new (w.alloc (.cells #[.int .i64 0, .int .i64 0, .slice none 0 0] 34)) (.cells #[.int .i64 0, .int .i64 n, .slice none 0 0] 34); simpa using this); obtain ⟨p0, p1, p2, pz⟩ := reply_block HX0.out; obtain ⟨q0, q1, q2, qz⟩ := reply_block HX1.out; have pz0 := pz 0; have pz1 := pz 1; have pz2 := pz 2; have qz2 := qz 2; have HO2 := Hid.mk ho2; have HKV := Hid.mk hkv; have HKP : Hid (Kp [kb] w w2) := (Kp.below HB0.out).trans hkp; clear ho2 hkv hkp pz qz)
    have hx0 : (w2.setCell ⟨w.heap.size + 1, 2, none⟩ (.slice a2 s.settle.2.length c2)).heap[w.heap.size]? = some (.cells #[.int .i64 0, .int .i64 0, .slice none 0 0] 34 (0, 0)) := (Below.heap_setCell _ _ _ _ (by simp)).trans HX0.out
    have hfin := reply_set hx0 (.int .i64 0) (.int .i64 n) (.slice a2 s.settle.2.length c2)
    obtain ⟨y0, y1, y2, _⟩ := reply_block hfin
    refine bodyPost_ret (v := rpV ⟨0, n, s.settle.2⟩ (.slice a2 s.settle.2.length c2)) ?_ rfl ⟨_, rfl, ?_, ⟨rv', wv', qv', ?_⟩, ?_⟩
    · simp [results, Tryz.results57, go_sem, y0, y1, y2, rpV]
    · exact own_mono (own_reply3 (own_reply HO2.out HX1.out (by decide) _ _) hx0 (by decide) _ _ _) (by simp; omega)
    · exact (HKV.out.reply HX1.out _ _).reply3 hx0 _ _ _
    · exact (((HKP.out.newCell (by simp) _).newCell (by simp) _).newCell (by simp) _).newCell (by simp) _
  · have HE : Hid (s.done n f = (s, ⟨f, n, []⟩)) := by show _ = _; unfold DS.done; rw [if_neg hf]
    rw [HE.out]
    have hfb : (f == 0) = false := by simpa using hf
    clear h hbas hb0 HE hf
    go_enter Tryz.func57, Tryz.ntmps57
    go_wp2
    have hb : Below w.heap.size w ((w.alloc (.cells #[.int .i64 f, .int .i64 n, .slice none 0 0] 34)).alloc (.cells #[.int .i64 f, .int .i64 n, .slice none 0 0] 34)) := ((Below.refl _ _).alloc (Nat.le_refl _) _).alloc (by simp) _
    refine bodyPost_ret (v := rpV ⟨f, n, []⟩ (.slice none 0 0)) ?_ rfl ⟨_, rfl, World.ownsRow_nil _ _ _ _, ⟨rv, wv, qv, HH.out.below hb⟩, Kp.below hb⟩
    simp [results, Tryz.results57, go_sem, rpV]
end
end Go.Proofs.YtaicdjhblbobbaaGreat

/- Contract of the Kernel's sweep: the locks of openings of which there is no descriptor any more go. -/
namespace Go.Proofs.YtaicdjhblbobbaaGreat
open Go.RowKit Go.Lib

section
variable {w : World} {kb tb mb : Nat} {g : Int} {P : Nat → Prop} {ι : Nat → Nat} {s : DS} {rv wv : Nat → Value} {qv : Value} {B : Nat}
theorem KV.state (h : KV w kb tb mb g P ι s rv wv qv) {t : DS} (hL : t.L = s.L) (hF : t.F = s.F) (hO : t.O = s.O) (hN : t.N = s.N) (hR : ∀ i, i < 3 → t.R i = s.R i) (hW : ∀ i, i < 3 → t.W i = s.W i) (hQ : t.Q = s.Q) (hs : t.Sm) : KV w kb tb mb g P ι t rv wv qv where
  k := h.k
  t := by rw [hL]; exact h.t
  m := by rw [hF]; exact h.m
  o := by rw [hN, hO]; exact h.o
  inj := by rw [hN]; exact h.inj
  r := fun i hi => by rw [hR i hi]; exact h.r i hi
  wr := fun i hi => by rw [hW i hi]; exact h.wr i hi
  q := by rw [hQ]; exact h.q
  pk := h.pk
  po := by rw [hN]; exact h.po
  pr := h.pr
  pw := h.pw
  pq := h.pq
  sm := hs
/-- Swept up to file n. -/
def DS.swept (s : DS) (n : Nat) : DS := {s with W := fun f => if f < n then (s.W f).filter fun w => s.inUse w.o else s.W f}
theorem DS.Sm.withW {s : DS} (h : s.Sm) {W : Nat → List Wl} (hW : ∀ f, (W f).Sublist (s.W f)) : DS.Sm {s with W := W} :=
  ⟨h.f, h.o, h.len, h.run, h.rp, fun f x hx => h.w f x ((hW f).subset hx), fun f => Nat.le_trans (hW f).length_le (h.wl f), fun a ha => ⟨(h.q a ha).file, (h.q a ha).o, (h.q a ha).rg⟩, h.ql⟩
theorem DS.Sm.swept {s : DS} (h : s.Sm) (n : Nat) : (s.swept n).Sm := h.withW fun f => by
  show List.Sublist (if f < n then _ else _) _
  split
  · exact List.filter_sublist
  · exact List.Sublist.refl _
theorem DS.Sm.sweep {s : DS} (h : s.Sm) : s.sweep.Sm := h.withW fun _ => List.filter_sublist

set_option maxHeartbeats 16000000 in
set_option maxRecDepth 100000 in
theorem sweep_any (h : KV w kb tb mb g P ι s rv wv qv) (hP : ∀ b, B ≤ b → P b) (hB : B ≤ w.heap.size) :
    Calls Tryz.prog 85 #[.pointer (some ⟨kb, 0, none⟩)] w fun e w' => e = .returned (.tuple #[]) ∧ (∃ wv', KV w' kb tb mb g P ι s.sweep rv wv' qv) ∧ Kp [kb] w w' := by
  have HH := Hid.mk h
  have hkl := h.lt
  clear h
  go_enter Tryz.func85, Tryz.ntmps85
  go_wp2
  go_loopw [2, 3] (fun _ s3 wr => ∃ (n : Nat) (wv' : Nat → Value), s3 = .int .i64 n ∧ n ≤ 3 ∧ Hid (KV wr kb tb mb g P ι (s.swept n) rv wv' qv) ∧ Hid (Kp [kb] w wr)) (fun _ s3 _ => 3 - (intOf s3).toNat)
  case atStart => exact ⟨0, wv, rfl, Nat.zero_le _, HH.out.state rfl rfl rfl rfl (fun _ _ => rfl) (fun _ _ => by simp [DS.swept]) rfl (HH.out.sm.swept 0), Kp.refl _ _⟩
  case round =>
    obtain ⟨n, wv', rfl, hn, HK, HP⟩ := hrel
    have hsz : w.heap.size ≤ wr.heap.size := HP.out.size
    by_cases hlt : n < 3
    · have hlt' : (n : Int) < 3 := by omega
      have hn0 : (0 : Int) ≤ (n : Int) := by omega
      have hk := HK.out
      have HC := Hid.mk (fun (W : World) (hb : Below wr.heap.size wr W) => hk.pair hb n hlt)
      have HC2 := Hid.mk (fun (W : World) (hb : Below wr.heap.size wr W) => (hb.cell (p := ⟨kb, 2, none⟩) hk.lt).trans hk.c2)
      have HFZ := Hid.mk (fun (W : World) (hb : Below wr.heap.size wr W) (o : Nat) => (hb.frozen (p := ⟨kb, o, none⟩) hk.lt).trans (hk.frz o))
      have HKP := Hid.mk (fun (W : World) (hb : Below wr.heap.size wr W) => Keep_any (v := wv' n) (l := renW ι ((s.swept n).W n)) (fun b => ps6.any (hasG (renF ι (s.swept n).F) b)) (w := W) 128 #[.pointer (some ⟨tb, 0, none⟩)] #[] (by intro args w; simp [go_sem]) (own_below (hk.wr n hlt) hb) (by rw [renW_len]; have := hk.sm.wl n; omega)
        (fun W2 x hx hW2 => by
          have hkv := (hk.below hb).below hW2
          obtain ⟨y, hy, rfl⟩ := List.mem_map.1 hx
          exact InUse_any hkv.t hkv.m _ (hkv.opn (hkv.sm.w n y hy)) hkv.opnG))
      have HRK := Hid.mk (hk.rn.keep n)
      rw [HRK.out] at HKP
      obtain ⟨ra, rc, hra⟩ := own_form (hk.r n hlt)
      obtain ⟨wa, wc, hwa⟩ := own_form (hk.wr n hlt)
      rw [hra] at HC
      rw [hwa] at HC HKP
      obtain ⟨cr, cw⟩ := HC.out wr (Below.refl _ _)
      have c2 := HC2.out wr (Below.refl _ _)
      have hkr : kb < wr.heap.size := by omega
      clear hra hwa hk
      generalize ((s.swept n).R n).length = rl at *
      generalize (renW ι ((s.swept n).W n)).length = wl at *
      generalize hnl : (((s.swept n).W n).filter fun w => (s.swept n).inUse w.o) = NL at *
      have HNL := Hid.mk hnl
      clear hnl
      go_upto_region 3 with fail
      go_region_with (go_at_call 127; refine (HKP.out _ ?_).mono ?_; exact (Below.refl _ _).drew; rintro e w2 ⟨v2, rfl, ho2, hb2⟩; obtain ⟨a2, c2', rfl⟩ := own_form ho2; have hz2 : wr.heap.size ≤ w2.heap.size := hb2.size; have HB2 : Hid (Below wr.heap.size wr w2) := (Below.refl _ _).drew.trans hb2; have cw2 := (HC.out _ HB2.out).2; have fz2 := HFZ.out _ HB2.out (3 + n * 2 + 1); have HO2 := Hid.mk ho2; clear ho2 hb2)
      all_goals
        go_wp2
        go_roundw
        case rel =>
          refine ⟨n + 1, updR wv' n (.slice a2 (renW ι NL).length c2'), by go_num, by omega, ?_, (HP.out.trans (Kp.below HB2.out)).trans (Kp.setCell (by simp))⟩
          have h1 := (HK.out.below HB2.out).setWholes (v := .slice a2 (renW ι NL).length c2') n hlt (own_mono HO2.out (Nat.zero_le _)) (fun b e => hP b (by have : wr.heap.size ≤ b := (HO2.out.lt b e).1; omega)) (HK.out.sm.withW fun f => by
            show List.Sublist (updR (s.swept n).W n NL f) _
            unfold updR
            split
            · rename_i e; subst e; rw [← HNL.out]; exact List.filter_sublist
            · exact List.Sublist.refl _)
          refine h1.state rfl rfl rfl rfl (fun _ _ => rfl) (fun j _ => ?_) rfl (HH.out.sm.swept _)
          show (if j < n + 1 then (s.W j).filter fun w => s.inUse w.o else s.W j) = updR (s.swept n).W n NL j
          unfold updR
          by_cases e : j = n
          · subst e
            rw [if_pos (by omega), if_pos rfl, ← HNL.out]
            show _ = List.filter _ (if j < j then _ else s.W j)
            rw [if_neg (by omega)]
            rfl
          · rw [if_neg e]
            show _ = if j < n then _ else s.W j
            by_cases e2 : j < n
            · rw [if_pos e2, if_pos (by omega)]
            · rw [if_neg e2, if_neg (by omega)]
        case measure => simp [intOf]; omega
    · obtain rfl : n = 3 := by omega
      go_wp2
      go_end0
      refine ⟨rfl, ⟨wv', HK.out.state rfl rfl rfl rfl (fun _ _ => rfl) (fun j hj => ?_) rfl HH.out.sm.sweep⟩, HP.out⟩
      show (s.W j).filter (fun w => s.inUse w.o) = if j < 3 then (s.W j).filter (fun w => s.inUse w.o) else s.W j
      rw [if_pos hj]
end
end Go.Proofs.YtaicdjhblbobbaaGreat

/- Contracts of the Kernel's kill and shut (the guard is held). -/
namespace Go.Proofs.YtaicdjhblbobbaaGreat
open Go.RowKit Go.Lib

theorem DS.Sm.withQ {s : DS} (h : s.Sm) {Q : List Ask} (hQ : Q.Sublist s.Q) : DS.Sm {s with Q := Q} :=
  ⟨h.f, h.o, h.len, h.run, h.rp, h.w, h.wl, fun a ha => ⟨(h.q a (hQ.subset ha)).file, (h.q a (hQ.subset ha)).o, (h.q a (hQ.subset ha)).rg⟩, Nat.le_trans hQ.length_le h.ql⟩
theorem DS.Sm.withR {s : DS} (h : s.Sm) {R : Nat → List Go.Proofs.YtaicdjhblbobbaaGreat.Rn} (hl : ∀ f, (R f).length ≤ 12) (hR : ∀ f x, x ∈ R f → ∃ f', x ∈ s.R f') : DS.Sm {s with R := R} :=
  ⟨h.f, h.o, hl, fun f x hx => by obtain ⟨f', hx'⟩ := hR f x hx; exact h.run f' x hx', fun f x hx => by obtain ⟨f', hx'⟩ := hR f x hx; exact h.rp f' x hx', h.w, h.wl, fun a ha => ⟨(h.q a ha).file, (h.q a ha).o, (h.q a ha).rg⟩, h.ql⟩
theorem DS.Sm.withLF {s : DS} (h : s.Sm) {L : Nat → Bool} {F : Int → Int → Option Nat} (hF : ∀ p d o, F p d = some o → o < s.N) : DS.Sm {s with L := L, F := F} :=
  ⟨hF, h.o, h.len, h.run, h.rp, h.w, h.wl, fun a ha => ⟨(h.q a ha).file, (h.q a ha).o, (h.q a ha).rg⟩, h.ql⟩
/-- The runs of a process dropped up to file n. -/
def DS.dropped (s : DS) (p : Int) (n : Nat) : DS := {s with R := fun f => if f < n then dropR (s.R f) p else s.R f}

section
variable {w : World} {kb tb mb : Nat} {g : Int} {P : Nat → Prop} {ι : Nat → Nat} {s : DS} {rv wv : Nat → Value} {qv : Value} {B : Nat}
set_option maxHeartbeats 1000000 in
set_option maxRecDepth 100000 in
theorem kill_no (h : KV w kb tb mb g P ι s rv wv qv) (p : Int) (hl : liveB s.L p = false) :
    Calls Tryz.prog 58 #[.pointer (some ⟨kb, 0, none⟩), .int .i64 p] w fun e w' => e = .returned (.int .i64 1) ∧ w' = w := by
  have HF := Hid.mk (procsKill_dead h.t p hl)
  have c2 := h.c2
  have hkl := h.lt
  clear h hl
  go_enter Tryz.func58, Tryz.ntmps58
  go_wp2_with (go_at_call 88; refine HF.out.mono ?_; rintro e w' ⟨rfl, hw⟩; have hw2 := hw.symm; clear hw; subst hw2)
  go_ret
  exact ⟨rfl, rfl⟩

set_option maxHeartbeats 16000000 in
set_option maxRecDepth 100000 in
theorem kill_yes (h : KV w kb tb mb g P ι s rv wv qv) (hP : ∀ b, B ≤ b → P b) (hB : B ≤ w.heap.size) (hbas : s.Bas) (p : Int) (hl : liveB s.L p = true) :
    Calls Tryz.prog 58 #[.pointer (some ⟨kb, 0, none⟩), .int .i64 p] w fun e w' => e = .returned (.int .i64 0) ∧ (∃ rv' wv' qv', KV w' kb tb mb g P ι (s.gone p) rv' wv' qv') ∧ Kp [kb, tb, mb] w w' := by
  have HF := Hid.mk (procsKill_ok h.t h.m p hl)
  have HCF : Hid (∀ q e, clearK (renF ι s.F) p 5 q e = renF ι (clearF s.F p) q e) := fun q e => by
    unfold clearK renF clearF
    by_cases hq : q = p
    · subst hq
      simp only [true_and, if_true]
      by_cases he : 0 ≤ e ∧ e < (5 : Nat)
      · rw [if_pos he]; rfl
      · rw [if_neg he]
        cases ef : s.F q e with
        | none => rfl
        | some o => have := hbas.f q e o ef; exact absurd ⟨this.2.1, by have := this.2.2.1; omega⟩ he
    · rw [if_neg (fun x => hq x.1), if_neg hq]
  have HS1 : Hid (DS.Sm {s with L := updL s.L p.toNat false, F := clearF s.F p}) := h.sm.withLF fun q d o e => by
    unfold clearF at e
    split at e
    · cases e
    · exact h.sm.f q d o e
  have HD := Hid.mk (fun f => hbas.dropped p f)
  have HGS := Hid.mk (hbas.gone p hl).sm
  have HH := Hid.mk h
  have c2 := h.c2
  have hkl := h.lt
  have hql := h.sm.ql
  clear h hl hbas
  go_enter Tryz.func58, Tryz.ntmps58
  go_wp2_with (first
    | (go_at_call 88; refine HF.out.mono ?_; rintro e w1 ⟨rfl, ht1, hm1, hk1⟩; have hkv1 := HH.out.table hk1 ht1 (hm1.congr HCF.out) HS1.out; obtain ⟨qa, qc, hqv⟩ := own_form hkv1.q; subst hqv; have c9 := hkv1.c9; have f9 := hkv1.frz 9; have hk1l := hkv1.lt; have hz1 := hk1.size; have HQ := Hid.mk (qWithout_any p hkv1.q (by rw [renQ_len]; show s.Q.length < 1000; omega)); rw [renQ_filter] at HQ; change Hid (Calls _ _ _ _ fun e w' => ∃ v', e = .returned v' ∧ w'.ownsRow w1.heap.size 137 8 v' (renQ ι (s.Q.filter fun a => decide (a.p ≠ p))).length (flatQ (renQ ι (s.Q.filter fun a => decide (a.p ≠ p)))) ∧ _) at HQ; generalize hqf : (s.Q.filter fun a => decide (a.p ≠ p)) = QF at HQ; have HQF := Hid.mk hqf; have HK1 := Hid.mk hkv1; have HP1 := Hid.mk hk1; clear hkv1 hk1 ht1 hm1 hqf)
    | (go_at_call 89; refine HQ.out.mono ?_; rintro e w2 ⟨v2, rfl, ho2, hb2⟩; obtain ⟨a2, c2', rfl⟩ := own_form ho2; have hz2 := hb2.size; have d9 := (hb2.cell (p := ⟨kb, 9, none⟩) hk1l).trans c9; have e9 := (hb2.frozen (p := ⟨kb, 9, none⟩) hk1l).trans f9; have HKV2 := Hid.mk ((HK1.out.below hb2).setQueue (v := .slice a2 (renQ ι QF).length c2') (l := QF) (own_mono ho2 (Nat.zero_le _)) (fun b e => hP b (by have := (ho2.lt b e).1; omega)) (HS1.out.withQ (by rw [← HQF.out]; exact List.filter_sublist))); have HP2 : Hid (Kp [kb, tb, mb] w (w2.setCell ⟨kb, 9, none⟩ (.slice a2 (renQ ι QF).length c2'))) := (HP1.out.mono (by simp)).trans (Kp.of_setCell hb2 (by simp) _); clear ho2 hb2))
  generalize hw3 : w2.setCell ⟨kb, 9, none⟩ (.slice a2 (renQ ι QF).length c2') = w3 at *
  have hz3 : w.heap.size ≤ w3.heap.size := HP2.out.size
  generalize hqv3 : (Value.slice a2 (renQ ι QF).length c2') = qv3 at *
  clear hw3 hqv3 HQ HK1 HP1 HF c9 f9 d9 e9 c2 HCF HS1
  have HGE : Hid (∀ t : DS, t = {s with L := updL s.L p.toNat false, F := clearF s.F p, Q := QF} → (s.gone p).L = t.L ∧ (s.gone p).F = t.F ∧ (s.gone p).O = t.O ∧ (s.gone p).N = t.N ∧ (s.gone p).Q = t.Q ∧ (∀ i, (s.gone p).R i = dropR (t.R i) p) ∧ (∀ i, (s.gone p).W i = (t.sweep).W i) ∧ t.R = s.R) := fun t ht => by
    subst ht
    refine ⟨rfl, rfl, rfl, rfl, ?_, fun _ => rfl, fun _ => rfl, rfl⟩
    show (s.Q.filter fun a => decide (a.p ≠ p)) = QF
    exact HQF.out
  generalize hs2 : ({s with L := updL s.L p.toNat false, F := clearF s.F p, Q := QF} : DS) = s2 at *
  have HE := Hid.mk (HGE.out s2 rfl)
  have HSM2 := Hid.mk HKV2.out.sm
  clear hs2 HGE HH
  go_loopw [6, 25] (fun _ s25 wr => ∃ (n : Nat) (rv' : Nat → Value), s25 = .int .i64 n ∧ n ≤ 3 ∧ Hid (KV wr kb tb mb g P ι (s2.dropped p n) rv' wv qv3) ∧ Hid (Kp [kb, tb, mb] w wr)) (fun _ s25 _ => 3 - (intOf s25).toNat)
  case atStart => exact ⟨0, rv, rfl, Nat.zero_le _, HKV2.out.state rfl rfl rfl rfl (fun _ _ => by simp [DS.dropped]) (fun _ _ => rfl) rfl (HSM2.out.withR (fun f => by simpa using HSM2.out.len f) (fun f x hx => ⟨f, by simpa using hx⟩)), HP2.out⟩
  case round =>
    obtain ⟨n, rv', rfl, hn, HK, HP⟩ := hrel
    have hsz : w.heap.size ≤ wr.heap.size := HP.out.size
    have HSD : Hid (∀ m, (s2.dropped p m).Sm) := fun m => HSM2.out.withR (fun f => by
        have h1 := (HD.out f).2.1
        have h2 := HSM2.out.len f
        rw [HE.out.2.2.2.2.2.2.2] at h2 ⊢
        split
        · exact h1
        · exact h2) (fun f x hx => by
        rw [HE.out.2.2.2.2.2.2.2] at hx ⊢
        split at hx
        · exact ⟨f, ((HD.out f).2.2 x hx).1⟩
        · exact ⟨f, hx⟩)
    by_cases hlt : n < 3
    · have hlt' : (n : Int) < 3 := by omega
      have hn0 : (0 : Int) ≤ (n : Int) := by omega
      have hk := HK.out
      have HC := Hid.mk (fun (W : World) (hb : Below wr.heap.size wr W) => hk.pair hb n hlt)
      have HFZ := Hid.mk (fun (W : World) (hb : Below wr.heap.size wr W) (o : Nat) => (hb.frozen (p := ⟨kb, o, none⟩) hk.lt).trans (hk.frz o))
      have HWO := Hid.mk (fun (W : World) (hb : Below wr.heap.size wr W) => Without_any (rv' n) ((s2.dropped p n).R n) p W (reads_own (own_below (hk.r n hlt) hb)) (by have := hk.sm.len n; omega))
      obtain ⟨ra, rc, hra⟩ := own_form (hk.r n hlt)
      obtain ⟨wa, wc, hwa⟩ := own_form (hk.wr n hlt)
      rw [hra] at HC HWO
      rw [hwa] at HC
      obtain ⟨cr, cw⟩ := HC.out wr (Below.refl _ _)
      have hkr : kb < wr.heap.size := by omega
      have HRN : Hid ((s2.dropped p n).R n = s2.R n) := by show (if n < n then _ else s2.R n) = _; rw [if_neg (by omega)]
      rw [HRN.out] at HWO HC cr
      clear hra hwa hk
      generalize (s2.R n).length = rl at *
      generalize (renW ι ((s2.dropped p n).W n)).length = wl at *
      change Hid (∀ (W : World), Below wr.heap.size wr W → Calls _ _ _ W fun e w' => ∃ v', e = .returned v' ∧ Good W.heap.size w' v' (dropR (s2.R n) p) ∧ _) at HWO
      generalize hnl : dropR (s2.R n) p = NL at *
      have HNL := Hid.mk hnl
      clear hnl
      go_upto_region 8 with fail
      go_region_with (go_at_call 84; refine (HWO.out _ ?_).mono ?_; exact (Below.refl _ _).drew; rintro e w4 ⟨v4, rfl, hg4, hb4⟩; obtain ⟨a4, c4, rfl⟩ := own_form hg4.own; have hz4 : wr.heap.size ≤ w4.heap.size := hb4.size; have HB4 : Hid (Below wr.heap.size wr w4) := (Below.refl _ _).drew.trans hb4; have cr4 := (HC.out _ HB4.out).1; have fz4 := HFZ.out _ HB4.out (3 + n * 2); have HO4 := Hid.mk hg4.own; clear hg4 hb4)
      all_goals
        go_wp2
        go_roundw
        case rel =>
          refine ⟨n + 1, updR rv' n (.slice a4 NL.length c4), by go_num, by omega, ?_, (HP.out.trans (Kp.below HB4.out)).trans (Kp.setCell (by simp))⟩
          have hst : ∀ j, (if j < n + 1 then dropR (s2.R j) p else s2.R j) = updR (s2.dropped p n).R n NL j := fun j => by
            unfold updR
            by_cases e : j = n
            · subst e
              rw [if_pos (by omega), if_pos rfl, HNL.out]
            · rw [if_neg e]
              show _ = if j < n then _ else s2.R j
              by_cases e2 : j < n
              · rw [if_pos e2, if_pos (by omega)]
              · rw [if_neg e2, if_neg (by omega)]
          have hsm := HSD.out (n + 1)
          refine ((HK.out.below HB4.out).setRuns (v := .slice a4 NL.length c4) n hlt (own_mono HO4.out (Nat.zero_le _)) (fun b e => hP b (by have : wr.heap.size ≤ b := (HO4.out.lt b e).1; omega)) ?_).state rfl rfl rfl rfl (fun j _ => hst j) (fun _ _ => rfl) rfl hsm
          have hf : updR (s2.dropped p n).R n NL = (fun f => if f < n + 1 then dropR (s2.R f) p else s2.R f) := funext fun j => (hst j).symm
          rw [hf]
          exact hsm
        case measure => simp [intOf]; omega
    · obtain rfl : n = 3 := by omega
      have HSW := Hid.mk (sweep_any HK.out hP (by omega))
      go_wp2_with (go_at_call 85; refine HSW.out.mono ?_; rintro e w5 ⟨rfl, ⟨wv5, hkv⟩, hkp⟩; have HK5 := Hid.mk hkv; have HP5 := Hid.mk hkp; clear hkv hkp)
      go_ret
      obtain ⟨q1, q2, q3, q4, q5, q6, q7, q8⟩ := HE.out
      refine ⟨rfl, ⟨rv', wv5, qv3, HK5.out.state q1 q2 q3 q4 (fun j hj => ?_) (fun j hj => ?_) q5 HGS.out⟩, HP.out.trans (HP5.out.mono (by simp))⟩
      · rw [q6 j]
        show _ = if j < 3 then dropR (s2.R j) p else s2.R j
        rw [if_pos hj]
      · exact q7 j

set_option maxHeartbeats 1000000 in
set_option maxRecDepth 100000 in
theorem shut_no (h : KV w kb tb mb g P ι s rv wv qv) (p d : Int) (he : findE s.L (renF ι s.F) p d ≠ 0) :
    Calls Tryz.prog 55 #[.pointer (some ⟨kb, 0, none⟩), .int .i64 p, .int .i64 d] w fun e w' => e = .returned (.int .i64 (findE s.L (renF ι s.F) p d)) ∧ w' = w := by
  have HF := Hid.mk (procsClose_err h.t h.m p d he)
  have c2 := h.c2
  have hkl := h.lt
  generalize findE s.L (renF ι s.F) p d = E at *
  have hE : (E != 0) = true := by simpa using he
  clear h he
  go_enter Tryz.func55, Tryz.ntmps55
  go_wp2_with (go_at_call 83; refine HF.out.mono ?_; rintro e w' ⟨rfl, hw⟩; have hw2 := hw.symm; clear hw; subst hw2)
  go_ret
  exact ⟨rfl, rfl⟩

set_option maxHeartbeats 8000000 in
set_option maxRecDepth 100000 in
theorem shut_yes (h : KV w kb tb mb g P ι s rv wv qv) (hP : ∀ b, B ≤ b → P b) (hB : B ≤ w.heap.size) (hbas : s.Bas) (p d : Int) {o : Nat} (hl : liveB s.L p = true) (hnw : s.waits p = false) (hf : s.F p d = some o) :
    Calls Tryz.prog 55 #[.pointer (some ⟨kb, 0, none⟩), .int .i64 p, .int .i64 d] w fun e w' => e = .returned (.int .i64 0) ∧ (∃ rv' wv', KV w' kb tb mb g P ι (s.shut p d o) rv' wv' qv) ∧ Kp [kb, tb, mb] w w' := by
  have hoN := h.sm.f p d o hf
  have hO3 := h.sm.o o
  have HF := Hid.mk (procsClose_ok (b := ι o) h.t h.m p d hl (by unfold renF; rw [hf]; rfl))
  have HS1 : Hid (DS.Sm {s with L := s.L, F := updF s.F p d none}) := h.sm.withLF fun q e o' ef => by
    unfold updF at ef
    split at ef
    · cases ef
    · exact h.sm.f q e o' ef
  have HD := Hid.mk (hbas.dropped p (s.O o))
  have HGS := Hid.mk (hbas.shut (p := p) (d := d) (o := o) hnw).sm
  have HH := Hid.mk h
  have c2 := h.c2
  have hkl := h.lt
  clear h hl hbas hnw hf
  go_enter Tryz.func55, Tryz.ntmps55
  go_upto_region 4 with (go_at_call 83; refine HF.out.mono ?_; rintro e w1 ⟨rfl, hm1, hk1⟩; have hkv1 := HH.out.table (hk1.mono (by simp)) (HH.out.t.of_block (hk1.block tb HH.out.t.lt (by simp [HH.out.ne3]))) (hm1.congr (fun q e => (congrFun (congrFun (renF_updF (ι := ι) s.F p d none) q) e).symm)) HS1.out; have hz1 := hk1.size; have hk1l := hkv1.lt; have HK1 := Hid.mk hkv1; have HP1 : Hid (Kp [kb, tb, mb] w w1) := hk1.mono (by simp); clear hkv1 hk1 hm1)
  have HFI := Hid.mk (fun (W : World) (hb : Below w1.heap.size w1 W) => File_any ((HK1.out.below hb).o o hoN))
  have HC := Hid.mk (fun (W : World) (hb : Below w1.heap.size w1 W) => HK1.out.pair hb (s.O o) hO3)
  have HFZ := Hid.mk (fun (W : World) (hb : Below w1.heap.size w1 W) (j : Nat) => (hb.frozen (p := ⟨kb, j, none⟩) HK1.out.lt).trans (HK1.out.frz j))
  have HWO := Hid.mk (fun (W : World) (hb : Below w1.heap.size w1 W) => Without_any (rv (s.O o)) (s.R (s.O o)) p W (reads_own (own_below (HK1.out.r (s.O o) hO3) hb)) (by have := HH.out.sm.len (s.O o); omega))
  obtain ⟨ra, rc, hra⟩ := own_form (HK1.out.r (s.O o) hO3)
  obtain ⟨wa, wc, hwa⟩ := own_form (HK1.out.wr (s.O o) hO3)
  rw [hra] at HC HWO
  rw [hwa] at HC
  change Hid (∀ (W : World), Below w1.heap.size w1 W → Calls _ _ _ W fun e w' => ∃ v', e = .returned v' ∧ Good W.heap.size w' v' (dropR (s.R (s.O o)) p) ∧ _) at HWO
  change Hid (∀ (W : World), Below w1.heap.size w1 W → Calls _ _ _ W fun e w' => e = .returned (.int .i64 (s.O o)) ∧ _) at HFI
  have HNL : Hid (∀ t : DS, t = {s with L := s.L, F := updF s.F p d none} → s.shut p d o = DS.sweep {t with R := updR t.R (s.O o) (dropR (s.R (s.O o)) p)}) := fun t ht => by subst ht; rfl
  generalize hoi : s.O o = i at *
  clear hoi hra hwa
  generalize hs1 : ({s with L := s.L, F := updF s.F p d none} : DS) = s1 at *
  have HE := Hid.mk (HNL.out s1 rfl)
  have HR1 : Hid (s1.R = s.R) := by show _ = _; rw [← hs1]
  clear hs1 HNL
  generalize hrl : (s1.R i).length = rl at *
  generalize (renW ι (s1.W i)).length = wl at *
  clear hrl
  have hi0 : (0 : Int) ≤ (i : Int) := by omega
  have hi3 : (i : Int) < 3 := by omega
  generalize hnl : dropR (s.R i) p = NL at *
  have HNL := Hid.mk hnl
  clear hnl
  go_region_with (go_at_call 82; refine (HFI.out _ (Below.refl _ _).drew).mono ?_; rintro e w' ⟨rfl, hw⟩; have hw2 := hw.symm; clear hw; subst hw2)
  all_goals
    obtain ⟨cr, cw⟩ := HC.out w1.drew (Below.refl _ _).drew
    go_wp2_with (first
      | (go_at_call 84; refine (HWO.out _ (Below.refl _ _).drew).mono ?_; rintro e w4 ⟨v4, rfl, hg4, hb4⟩; obtain ⟨a4, c4, rfl⟩ := own_form hg4.own; have hz4 : w1.heap.size ≤ w4.heap.size := hb4.size; have hb4' : Below w1.heap.size w1 w4 := (Below.refl _ _).drew.trans hb4; have cr4 := (HC.out _ hb4').1; have fz4 := HFZ.out _ hb4' (3 + i * 2); have HKV4 := Hid.mk ((HK1.out.below hb4').setRuns (v := .slice a4 NL.length c4) i hO3 (own_mono hg4.own (Nat.zero_le _)) (fun b e => hP b (by have : w1.heap.size ≤ b := (hg4.own.lt b e).1; omega)) (HS1.out.withR (fun f => by unfold updR; split; exact HD.out.2.1; exact HS1.out.len f) (fun f x hx => by unfold updR at hx; split at hx; exact ⟨i, by rw [HR1.out]; exact (HD.out.2.2 x hx).1⟩; exact ⟨f, hx⟩))); have HP4 : Hid (Kp [kb, tb, mb] w (w4.setCell ⟨kb, 3 + i * 2, none⟩ (.slice a4 NL.length c4))) := HP1.out.trans (Kp.of_setCell hb4' (by simp) _); have HSW := Hid.mk (sweep_any HKV4.out hP (by simp; omega)); clear hg4 hb4 hb4')
      | (go_at_call 85; refine HSW.out.mono ?_; rintro e w5 ⟨rfl, ⟨wv5, hkv⟩, hkp⟩; have HK5 := Hid.mk hkv; have HP5 := Hid.mk hkp; clear hkv hkp))
    go_ret
    rw [HE.out]
    exact ⟨rfl, ⟨_, wv5, HK5.out⟩, HP4.out.trans (HP5.out.mono (by simp))⟩
end
end Go.Proofs.YtaicdjhblbobbaaGreat

/- Package procs as the Kernel sees it: a process, an opening, a descriptor more. -/
namespace Go.Proofs.YtaicdjhblbobbaaGreat
open Go.RowKit Go.Lib

theorem find_ps6 (L : Nat → Bool) : (ps6.find? (fun c => !L c.toNat) = none ∧ ∀ j, j < 6 → L j = true) ∨ ∃ c : Nat, c < 6 ∧ ps6.find? (fun c => !L c.toNat) = some (c : Int) ∧ (∀ j, j < c → L j = true) ∧ L c = false := by
  have key : ∀ n, n ≤ 6 → (∀ j, j < n → L j = true) → (∀ j, j < 6 → L j = true) ∨ ∃ c : Nat, c < 6 ∧ (∀ j, j < c → L j = true) ∧ L c = false := by
    intro n hn h
    induction hk : 6 - n generalizing n with
    | zero => exact Or.inl fun j hj => h j (by omega)
    | succ k ih =>
      cases e : L n with
      | false => exact Or.inr ⟨n, by omega, h, e⟩
      | true => exact ih (n + 1) (by omega) (fun j hj => by by_cases ej : j = n; (rw [ej]; exact e); exact h j (by omega)) (by omega)
  rcases key 0 (by omega) (fun j hj => absurd hj (Nat.not_lt_zero _)) with h | ⟨c, hc, h1, h2⟩
  · refine Or.inl ⟨?_, h⟩
    rw [List.find?_eq_none]
    intro x hx
    obtain ⟨x0, x6⟩ := mem_ps6.1 hx
    simp [h x.toNat (by omega)]
  · refine Or.inr ⟨c, hc, ?_, h1, h2⟩
    match c, hc, h1, h2 with
    | 0, _, _, h2 => simp [ps6, h2]
    | 1, _, h1, h2 => simp [ps6, h2, h1 0]
    | 2, _, h1, h2 => simp [ps6, h2, h1 0, h1 1]
    | 3, _, h1, h2 => simp [ps6, h2, h1 0, h1 1, h1 2]
    | 4, _, h1, h2 => simp [ps6, h2, h1 0, h1 1, h1 2, h1 3]
    | 5, _, h1, h2 => simp [ps6, h2, h1 0, h1 1, h1 2, h1 3, h1 4]
theorem find_ds5 (s : DS) (p : Int) : (s.least? p = none ∧ ∀ j : Nat, j < 5 → (s.F p j).isSome = true) ∨ ∃ d : Nat, d < 5 ∧ s.least? p = some (d : Int) ∧ (∀ j : Nat, j < d → (s.F p j).isSome = true) ∧ s.F p d = none := by
  have key : ∀ n, n ≤ 5 → (∀ j : Nat, j < n → (s.F p j).isSome = true) → (∀ j : Nat, j < 5 → (s.F p j).isSome = true) ∨ ∃ d : Nat, d < 5 ∧ (∀ j : Nat, j < d → (s.F p j).isSome = true) ∧ s.F p d = none := by
    intro n hn h
    induction hk : 5 - n generalizing n with
    | zero => exact Or.inl fun j hj => h j (by omega)
    | succ k ih =>
      cases e : s.F p n with
      | none => exact Or.inr ⟨n, by omega, h, e⟩
      | some o => exact ih (n + 1) (by omega) (fun j hj => by by_cases ej : j = n; (rw [ej, e]; rfl); exact h j (by omega)) (by omega)
  have hn : ∀ j : Nat, (s.F p j).isSome = true → (s.F p j).isNone = false := fun j h => by cases e : s.F p j; (rw [e] at h; cases h); rfl
  rcases key 0 (by omega) (fun j hj => absurd hj (Nat.not_lt_zero _)) with h | ⟨c, hc, h1, h2⟩
  · refine Or.inl ⟨?_, h⟩
    unfold DS.least?
    rw [List.find?_eq_none]
    intro x hx
    obtain ⟨x0, x5⟩ := mem_ds5.1 hx
    obtain ⟨j, rfl⟩ : ∃ j : Nat, x = (j : Int) := ⟨x.toNat, by omega⟩
    simp [hn j (h j (by omega))]
  · refine Or.inr ⟨c, hc, ?_, h1, h2⟩
    unfold DS.least?
    have e0 : (s.F p c).isNone = true := by rw [h2]; rfl
    match c, hc, h1, e0 with
    | 0, _, _, e0 => have e0 : (s.F p 0).isNone = true := e0; simp [ds5, e0]
    | 1, _, h1, e0 => have e0 : (s.F p 1).isNone = true := e0; have a0 : (s.F p 0).isNone = false := hn 0 (h1 0 (by omega)); simp [ds5, e0, a0]
    | 2, _, h1, e0 => have e0 : (s.F p 2).isNone = true := e0; have a0 : (s.F p 0).isNone = false := hn 0 (h1 0 (by omega)); have a1 : (s.F p 1).isNone = false := hn 1 (h1 1 (by omega)); simp [ds5, e0, a0, a1]
    | 3, _, h1, e0 => have e0 : (s.F p 3).isNone = true := e0; have a0 : (s.F p 0).isNone = false := hn 0 (h1 0 (by omega)); have a1 : (s.F p 1).isNone = false := hn 1 (h1 1 (by omega)); have a2 : (s.F p 2).isNone = false := hn 2 (h1 2 (by omega)); simp [ds5, e0, a0, a1, a2]
    | 4, _, h1, e0 => have e0 : (s.F p 4).isNone = true := e0; have a0 : (s.F p 0).isNone = false := hn 0 (h1 0 (by omega)); have a1 : (s.F p 1).isNone = false := hn 1 (h1 1 (by omega)); have a2 : (s.F p 2).isNone = false := hn 2 (h1 2 (by omega)); have a3 : (s.F p 3).isNone = false := hn 3 (h1 3 (by omega)); simp [ds5, e0, a0, a1, a2, a3]
theorem renF_some {ι : Nat → Nat} {F : Int → Int → Option Nat} (p d : Int) : (renF ι F p d).isSome = (F p d).isSome := by unfold renF; cases F p d <;> rfl
theorem renF_none {ι : Nat → Nat} {F : Int → Int → Option Nat} {p d : Int} : renF ι F p d = none ↔ F p d = none := by unfold renF; cases F p d <;> simp

/-- A state, a number, an error. -/
structure Rs where
  t : DS
  n : Int
  f : Int
def DS.fork0 (s : DS) (p : Int) : Rs := if liveB s.L p = false then ⟨s, 0, 1⟩ else
  match ps6.find? fun c => !s.L c.toNat with
  | none => ⟨s, 0, 3⟩
  | some c => ⟨{s with L := updL s.L c.toNat true, F := copyF s.F p c 5}, c, 0⟩
def DS.opn0 (s : DS) (p file : Int) : Rs := if liveB s.L p = false then ⟨s, 0, 1⟩ else if ¬ (0 ≤ file ∧ file < 3) then ⟨s, 0, 4⟩ else
  match s.least? p with
  | none => ⟨s, 0, 3⟩
  | some d => ⟨{s with F := updF s.F p d (some s.N), O := updR s.O s.N file.toNat, N := s.N + 1}, d, 0⟩
def DS.dup0 (s : DS) (p d : Int) : Rs := if liveB s.L p = false then ⟨s, 0, 1⟩ else
  match s.F p d with
  | none => ⟨s, 0, 5⟩
  | some o => match s.least? p with
    | none => ⟨s, 0, 3⟩
    | some e => ⟨{s with F := updF s.F p e (some o)}, e, 0⟩

section
variable {w : World} {kb tb mb : Nat} {g : Int} {P : Nat → Prop} {ι : Nat → Nat} {s : DS} {rv wv : Nat → Value} {qv : Value} {B : Nat}
theorem fork_in (h : KV w kb tb mb g P ι s rv wv qv) (hb : s.Bas) (p : Int) :
    Calls Tryz.prog 61 #[.pointer (some ⟨tb, 0, none⟩), .int .i64 p] w fun e w' => e = .returned (.tuple #[.int .i64 (s.fork0 p).n, .int .i64 (s.fork0 p).f]) ∧ KV w' kb tb mb g P ι (s.fork0 p).t rv wv qv ∧ Kp [tb, mb] w w' := by
  unfold DS.fork0
  cases hl : liveB s.L p
  · simp only [if_true]
    refine (procsFork_dead h.t p hl).mono ?_
    rintro e w' ⟨rfl, rfl⟩
    exact ⟨rfl, h, Kp.refl _ _⟩
  · simp only [Bool.true_eq_false, if_false]
    rcases find_ps6 s.L with ⟨h1, h2⟩ | ⟨c, hc, h1, h2, h3⟩
    · rw [h1]
      refine (procsFork_full h.t p hl h2).mono ?_
      rintro e w' ⟨rfl, rfl⟩
      exact ⟨rfl, h, Kp.refl _ _⟩
    · rw [h1]
      refine (procsFork_ok h.t h.m p hl c hc h2 h3 (fun e => ?_)).mono ?_
      · rw [renF_none]
        cases ef : s.F c e with
        | none => rfl
        | some o =>
          have := (hb.f c e o ef).1
          unfold liveB at this
          rw [show (c : Int).toNat = c by omega, h3] at this
          simp at this
      · rintro e w' ⟨rfl, ht, hm, hk⟩
        refine ⟨rfl, ?_, hk⟩
        rw [← renF_copyF] at hm
        exact h.table hk ht hm (h.sm.withLF fun q e o ef => by
          unfold copyF at ef
          split at ef
          · exact h.sm.f _ _ _ ef
          · exact h.sm.f _ _ _ ef)
theorem dup_in (h : KV w kb tb mb g P ι s rv wv qv) (p d : Int) :
    Calls Tryz.prog 51 #[.pointer (some ⟨tb, 0, none⟩), .int .i64 p, .int .i64 d] w fun e w' => e = .returned (.tuple #[.int .i64 (s.dup0 p d).n, .int .i64 (s.dup0 p d).f]) ∧ KV w' kb tb mb g P ι (s.dup0 p d).t rv wv qv ∧ Kp [tb, mb] w w' := by
  have hE : findE s.L (renF ι s.F) p d = if liveB s.L p = false then 1 else if s.F p d = none then 5 else 0 := by
    unfold findE
    simp only [renF_none]
  unfold DS.dup0
  cases hl : liveB s.L p
  · rw [hl] at hE
    simp only [if_true] at hE ⊢
    refine (procsDup_err h.t h.m p d (by rw [hE]; decide)).mono ?_
    rintro e w' ⟨rfl, rfl⟩
    exact ⟨by rw [hE], h, Kp.refl _ _⟩
  · rw [hl] at hE
    simp only [Bool.true_eq_false, if_false] at hE ⊢
    cases hf : s.F p d with
    | none =>
      rw [hf] at hE
      simp only [if_true] at hE
      refine (procsDup_err h.t h.m p d (by rw [hE]; decide)).mono ?_
      rintro e w' ⟨rfl, rfl⟩
      exact ⟨by rw [hE], h, Kp.refl _ _⟩
    | some o =>
      have hg : renF ι s.F p d = some (ι o) := by unfold renF; rw [hf]; rfl
      rcases find_ds5 s p with ⟨h1, h2⟩ | ⟨c, hc, h1, h2, h3⟩
      · simp only [h1]
        refine (procsDup_full h.t h.m p d hl hg (fun j hj => by rw [renF_some]; exact h2 j hj)).mono ?_
        rintro e w' ⟨rfl, hb⟩
        exact ⟨rfl, h.below hb, Kp.below hb⟩
      · simp only [h1]
        refine (procsDup_ok h.t h.m p d hl hg c hc (fun j hj => by rw [renF_some]; exact h2 j hj) (renF_none.2 h3)).mono ?_
        rintro e w' ⟨rfl, hm, hk⟩
        refine ⟨rfl, ?_, hk.mono (by simp)⟩
        have e1 : renF ι (updF s.F p c (some o)) = updF (renF ι s.F) p c (some (ι o)) := renF_updF _ _ _ _
        rw [← e1] at hm
        exact h.table (L' := s.L) (hk.mono (by simp)) (h.t.of_block (hk.block tb h.t.lt (by simp [h.ne3]))) hm (h.sm.withLF fun q e o' ef => by
          unfold updF at ef
          split at ef
          · cases ef; exact h.sm.f _ _ _ hf
          · exact h.sm.f _ _ _ ef)
/-- ι, and the block of one opening more. -/
def updI (ι : Nat → Nat) (n b : Nat) : Nat → Nat := fun o => if o = n then b else ι o
theorem opn_in (h : KV w kb tb mb g P ι s rv wv qv) (hP : ∀ b, B ≤ b → P b) (hB : B ≤ w.heap.size) (p file : Int) :
    Calls Tryz.prog 49 #[.pointer (some ⟨tb, 0, none⟩), .int .i64 p, .int .i64 file] w fun e w' => e = .returned (.tuple #[.int .i64 (s.opn0 p file).n, .int .i64 (s.opn0 p file).f]) ∧ (∃ ι', KV w' kb tb mb g P ι' (s.opn0 p file).t rv wv qv) ∧ Kp [tb, mb] w w' := by
  unfold DS.opn0
  cases hl : liveB s.L p
  · simp only [if_true]
    refine (procsOpen_dead h.t p file hl).mono ?_
    rintro e w' ⟨rfl, rfl⟩
    exact ⟨rfl, ⟨ι, h⟩, Kp.refl _ _⟩
  · simp only [Bool.true_eq_false, if_false]
    by_cases hf : 0 ≤ file ∧ file < 3
    · rw [if_neg (by simpa using hf)]
      rcases find_ds5 s p with ⟨h1, h2⟩ | ⟨c, hc, h1, h2, h3⟩
      · simp only [h1]
        refine (procsOpen_full h.t h.m p file hl hf.1 hf.2 (fun j hj => by rw [renF_some]; exact h2 j hj)).mono ?_
        rintro e w' ⟨rfl, hb⟩
        exact ⟨rfl, ⟨ι, h.below hb⟩, Kp.below hb⟩
      · simp only [h1]
        refine (procsOpen_ok h.t h.m p file hl hf.1 hf.2 c hc (fun j hj => by rw [renF_some]; exact h2 j hj) (renF_none.2 h3)).mono ?_
        rintro e w' ⟨rfl, ho, hm, hk⟩
        refine ⟨rfl, ⟨updI ι s.N w.heap.size, ?_⟩, hk.mono (by simp)⟩
        have hkeep := h.keeps (hk.mono (cs := [kb, tb, mb]) (by simp))
        have hlt : ∀ o, o < s.N → ι o < w.heap.size := fun o ho => (h.opn ho).lt
        have hi : ∀ o, o < s.N → updI ι s.N w.heap.size o = ι o := fun o ho => by unfold updI; rw [if_neg (by omega)]
        have hiN : updI ι s.N w.heap.size s.N = w.heap.size := by unfold updI; rw [if_pos rfl]
        have hW : ∀ i, renW (updI ι s.N w.heap.size) (s.W i) = renW ι (s.W i) := fun i => List.map_congr_left fun x hx => by rw [hi x.o (h.sm.w i x hx)]
        have hQ : flatQ (renQ (updI ι s.N w.heap.size) s.Q) = flatQ (renQ ι s.Q) := by
          unfold flatQ renQ
          rw [List.flatMap_map, List.flatMap_map, List.flatMap_def, List.flatMap_def]
          congr 1
          refine List.map_congr_left fun a ha => ?_
          unfold qcells
          simp only [renA_p, renA_file, renA_rn, renA_wk]
          congr 7
          rw [renA_ow, renA_ow]
          cases eo : a.ow with
          | none => rfl
          | some o => simp only [Option.map_some]; rw [hi o (ow_lt (h.sm.q a ha) eo)]
        have hF : ∀ q e, renF (updI ι s.N w.heap.size) (updF s.F p c (some s.N)) q e = updF (renF ι s.F) p c (some w.heap.size) q e := fun q e => by
          unfold renF updF
          by_cases hq : q = p ∧ e = (c : Int)
          · rw [if_pos hq, if_pos hq]; simp only [Option.map_some]; rw [hiN]
          · rw [if_neg hq, if_neg hq]
            show (s.F q e).map (updI ι s.N w.heap.size) = (s.F q e).map ι
            cases ef : s.F q e with
            | none => rfl
            | some o => simp only [Option.map_some]; rw [hi o (h.sm.f q e o ef)]
        have hO : ∀ o, o < s.N → updR s.O s.N file.toNat o = s.O o := fun o ho => by unfold updR; rw [if_neg (by omega)]
        have hON : updR s.O s.N file.toNat s.N = file.toNat := by unfold updR; rw [if_pos rfl]
        refine ⟨(hk.block kb h.lt (by simp [h.ne2])).trans h.k, h.t.of_block (hk.block tb h.t.lt (by simp [h.ne3])), hm.congr (fun q e => (hF q e).symm), fun o ho' => ?_, fun a b ha hb e => ?_, hkeep.r, fun i hi' => ?_, ?_, h.pk, fun o ho' => ?_, h.pr, h.pw, h.pq, ?_⟩
        · by_cases e : o = s.N
          · subst e
            show OpenAt w' (updI ι s.N w.heap.size s.N) ((updR s.O s.N file.toNat s.N : Nat) : Int)
            rw [hiN, hON]
            rw [show ((file.toNat : Nat) : Int) = file by omega]
            exact ho
          · have ho2 : o < s.N := by have : o < s.N + 1 := ho'; omega
            show OpenAt w' (updI ι s.N w.heap.size o) ((updR s.O s.N file.toNat o : Nat) : Int)
            rw [hi o ho2, hO o ho2]
            exact hkeep.o o ho2
        · have ha' : a < s.N + 1 := ha
          have hb' : b < s.N + 1 := hb
          by_cases ea : a = s.N
          · by_cases eb : b = s.N
            · omega
            · have := hlt b (by omega)
              rw [ea, hiN, hi b (by omega)] at e
              omega
          · by_cases eb : b = s.N
            · have := hlt a (by omega)
              rw [eb, hiN, hi a (by omega)] at e
              omega
            · rw [hi a (by omega), hi b (by omega)] at e
              exact h.inj a b (by omega) (by omega) e
        · show w'.ownsRow 0 _ 2 (wv i) (renW (updI ι s.N w.heap.size) (s.W i)).length (flatWl (renW (updI ι s.N w.heap.size) (s.W i)))
          rw [hW i]
          exact hkeep.wr i hi'
        · show w'.ownsRow 0 _ 8 qv (renQ (updI ι s.N w.heap.size) s.Q).length (flatQ (renQ (updI ι s.N w.heap.size) s.Q))
          rw [hQ, renQ_len, ← renQ_len ι]
          exact hkeep.q
        · by_cases e : o = s.N
          · rw [e, hiN]; exact hP _ hB
          · have ho2 : o < s.N := by have : o < s.N + 1 := ho'; omega
            rw [hi o ho2]; exact h.po o ho2
        · refine ⟨fun q e o ef => ?_, fun o => ?_, h.sm.len, h.sm.run, h.sm.rp, fun f x hx => Nat.lt_succ_of_lt (h.sm.w f x hx), h.sm.wl, fun a ha => ⟨(h.sm.q a ha).file, fun e => Nat.lt_succ_of_lt ((h.sm.q a ha).o e), (h.sm.q a ha).rg⟩, h.sm.ql⟩
          · show o < s.N + 1
            have ef' : updF s.F p c (some s.N) q e = some o := ef
            unfold updF at ef'
            split at ef'
            · cases ef'; omega
            · exact Nat.lt_succ_of_lt (h.sm.f q e o ef')
          · show updR s.O s.N file.toNat o < 3
            unfold updR
            split
            · omega
            · exact h.sm.o o
    · rw [if_pos hf]
      refine (procsOpen_file h.t p file hl (by omega)).mono ?_
      rintro e w' ⟨rfl, rfl⟩
      exact ⟨rfl, ⟨ι, h⟩, Kp.refl _ _⟩
end
end Go.Proofs.YtaicdjhblbobbaaGreat
