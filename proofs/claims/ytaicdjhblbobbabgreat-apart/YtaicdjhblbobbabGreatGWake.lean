/- Contract of the Kernel's lastStuck: who asked last of the greatest stuck set. -/
import Derived.Test.YtaicdjhblbobbabGreatGGive
namespace Go.Proofs.YtaicdjhblbobbabGreat
open Go.RowKit Go.Lib

theorem WaysAt.hold {w w' : World} {u : Value} {L : List (List Int)} {us : List Value} (h : WaysAt w u L us) {b2 : Nat} {t2 : TypeId} {z2 : Nat} {v : Value} {m : Nat} {ys : List Value} (h2 : w.ownsRow b2 t2 z2 v m ys) (n1 : 22 ≠ t2) (n2 : 3 ≠ t2) (hold : ∀ b, b < w.heap.size → v.ownBlock ≠ some b → w'.heap[b]? = w.heap[b]?) : WaysAt w' u L us :=
  ⟨h.len, own_hold h.own h2 n1 hold, fun j c t e1 e2 => own_hold (h.each j c t e1 e2) h2 n2 hold⟩
theorem WtAt.snoc {base : Nat} {w w' : World} {v v' : Value} {l : List Wt} {us : List Value} (h : WtAt base w v l us) {x : Wt} {u : Value} {ts : List Value} (hu : WaysAt w u x.2 ts)
    (ho : w'.ownsRow base 150 2 v' (l.length + 1) (flatWt l us ++ [.int .i64 x.1, u])) (hold : ∀ b, b < w.heap.size → v.ownBlock ≠ some b → w'.heap[b]? = w.heap[b]?) : WtAt base w' v' (l ++ [x]) (us ++ [u]) := by
  refine ⟨by simp [h.len], by rw [List.length_append, flatWt_snoc l us x u h.len]; exact ho, fun j y z e1 e2 => ?_⟩
  by_cases hj : j < l.length
  · rw [List.getElem?_append_left hj] at e1
    rw [List.getElem?_append_left (by rw [h.len]; exact hj)] at e2
    obtain ⟨ts', ht⟩ := h.each j y z e1 e2
    exact ⟨ts', ht.hold h.own (by decide) (by decide) hold⟩
  · have hjl : j = l.length := by
      have := (List.getElem?_eq_some_iff.1 e1).1
      simp at this
      omega
    subst hjl
    simp only [List.getElem?_concat_length, Option.some.injEq] at e1
    rw [← h.len] at e2
    simp only [List.getElem?_concat_length, Option.some.injEq] at e2
    subst e1 e2
    exact ⟨ts, hu.hold h.own (by decide) (by decide) hold⟩
theorem DS.wts_len (s : DS) : s.wts.length = s.Q.length := by simp [DS.wts]
theorem DS.wts_take {s : DS} {n : Nat} {a : Ask} (h : s.Q[n]? = some a) : s.wts.take (n + 1) = s.wts.take n ++ [(a.p, s.wayP a (s.Q.take n))] := by
  rw [List.take_add_one]
  congr 1
  unfold DS.wts
  rw [List.getElem?_map, List.getElem?_zipIdx, h]
  simp
theorem DS.wayP_len (s : DS) (h : ∀ f, (s.W f).length ≤ 100) (a : Ask) (l : List Ask) (hl : l.length < 800) : (s.wayP a l).length < 1000 := by
  unfold DS.wayP
  simp only [List.length_append, List.length_map]
  have h1 : (holders (s.R a.file) a.rn).length ≤ 6 := by unfold holders; exact Nat.le_trans (List.length_filter_le _ _) (Nat.le_refl _)
  have h2 := List.length_filter_le (fun w : Wl => bitesW (some w.o) w.k a.ow a.wk) (s.W a.file)
  have h3 := List.length_filter_le (fun b => bitesQ b a) l
  have := h a.file
  omega
theorem DS.wts_short {s : DS} (h : ∀ f, (s.W f).length ≤ 100) (hl : s.Q.length < 800) : ∀ x, x ∈ s.wts → x.short := by
  intro x hx
  unfold DS.wts at hx
  obtain ⟨y, hy, rfl⟩ := List.mem_map.1 hx
  refine ⟨s.wayP_len h y.1 _ (by rw [List.length_take]; omega), fun c hc => ?_⟩
  simp only [DS.wayP, List.mem_append, List.mem_map] at hc
  rcases hc with (⟨p, _, rfl⟩ | ⟨z, _, rfl⟩) | ⟨b, _, rfl⟩
  · simp
  · have := List.length_filter_le (s.has z.o) ps6
    have e : ps6.length = 6 := rfl
    show (ps6.filter (s.has z.o)).length < 1000
    omega
  · simp

set_option maxHeartbeats 8000000 in
set_option maxRecDepth 100000 in
theorem lastStuck_any {w : World} {kb tb mb : Nat} {g : Int} {P : Nat → Prop} {ι : Nat → Nat} {s : DS} {rv wv : Nat → Value} {qv : Value} (h : KV w kb tb mb g P ι s rv wv qv) (lv : Value) (l : List Ask) (hl : ∀ b, b ∈ l → s.AskSm b) (hln : l.length < 800)
    (hlv : w.ownsRow 0 93 8 lv (renQ ι l).length (flatQ (renQ ι l))) :
    Calls Tryz.prog 61 #[.pointer (some ⟨kb, 0, none⟩), lv] w fun e w' => e = .returned (.tuple #[.int .i64 ((lastP (DS.wts {s with Q := l})).getD 0), .bool (lastP (DS.wts {s with Q := l})).isSome]) ∧ Below w.heap.size w w' := by
  obtain ⟨qa, qc, rfl⟩ := own_form hlv
  rw [renQ_len] at *
  have HWY := Hid.mk (fun (W : World) (hb : Below w.heap.size w W) (n : Nat) (a : Ask) (hx : l[n]? = some a) => by
    have hn : n < l.length := (List.getElem?_eq_some_iff.1 hx).1
    have hcut : W.ownsRow 0 93 8 (.slice qa n qc) (renQ ι (l.take n)).length (flatQ (renQ ι (l.take n))) := by
      have h1 := own_below hlv hb
      obtain ⟨gq, rfl, _⟩ := own_some h1 (by omega)
      have h2 := own_cut h1 (k := n) (by omega)
      rw [renQ_len, renQ_take, ← DelInv.flat (by rw [renQ_len]; omega), List.length_take, Nat.min_eq_left (by omega)]
      exact h2
    exact ways_any (h.below hb) a (hl a (List.mem_of_getElem? hx)) (.slice qa n qc) (l.take n) (fun b hb => hl b (List.mem_of_mem_take hb)) (by rw [List.length_take]; omega) hcut)
  have HSS := Hid.mk (fun n (a : Ask) (hx : l[n]? = some a) => DS.wts_take (s := {s with Q := l}) hx)
  have HLL := Hid.mk (DS.wts_len {s with Q := l})
  have HSH : Hid (∀ x, x ∈ DS.wts {s with Q := l} → x.short) := DS.wts_short (s := {s with Q := l}) h.sm.wl hln
  have HV := Hid.mk hlv
  have HLP := Hid.mk (show lastP (DS.wts {s with Q := l}) = ((greatF (DS.wts {s with Q := l})).getLast?).map (·.1) from rfl)
  rw [HLP.out]
  have HWY2 : Hid (∀ (W : World) (_ : Below w.heap.size w W) (n : Nat) (a : Ask) (_ : l[n]? = some a), Calls Tryz.prog 58 #[.pointer (some ⟨kb, 0, none⟩), askV (renA ι a), .slice qa n qc] W fun e w' => ∃ v' us, e = .returned v' ∧ WaysAt w' v' (DS.wayP {s with Q := l} a (l.take n)) us ∧ Below W.heap.size W w') := HWY.out
  clear HWY hlv h hl HLP
  generalize DS.wts {s with Q := l} = T at *
  generalize hwp : DS.wayP {s with Q := l} = wp at *
  clear hwp
  have HLL' : T.length = l.length := HLL.out
  go_enter Tryz.func61, Tryz.ntmps61
  go_wp2
  go_loopw [6, 7, 12] (fun s6 _ s12 wr => ∃ (n : Nat) (us : List Value), s12 = .int .i64 n ∧ n ≤ l.length ∧ Hid (WtAt w.heap.size wr s6 (T.take n) us) ∧ Hid (Below w.heap.size w wr)) (fun _ _ s12 _ => l.length - (intOf s12).toNat)
  case atStart => exact ⟨0, [], rfl, Nat.zero_le _, ⟨rfl, World.ownsRow_nil _ _ _ _, fun i x u e => by simp at e⟩, Below.refl _ _⟩
  case round =>
    obtain ⟨n, us, rfl, hn, HW, HB⟩ := hrel
    have hsz : w.heap.size ≤ wr.heap.size := HB.out.size
    by_cases hlt : n < l.length
    · obtain ⟨x, hx⟩ : ∃ x, l[n]? = some x := ⟨_, List.getElem?_eq_getElem hlt⟩
      have hv2 := HV.out
      obtain ⟨gb, rfl, _, hg, hqc, hat⟩ := askAt (l := renQ ι l) (a := qa) (c := qc) (by rw [renQ_len]; exact hv2) (renQ_get hx)
      obtain ⟨c0, c1, c2, c3, c4, c5, c6, c7⟩ := hat.below HB.out hg
      rw [renQ_len] at hqc
      have hlt' : (n : Int) < (l.length : Int) := by omega
      have hgw : gb < wr.heap.size := by omega
      have hnc : (n : Int) ≤ (qc : Int) := by omega
      have hnc2 : n ≤ qc := by omega
      have HT := Hid.mk (HSS.out n x hx)
      have hc := fun (W : World) (hb : Below w.heap.size w W) => HWY2.out W hb n x hx
      unfold askV at hc
      have HC := Hid.mk hc
      have hll : (T.take n).length ≤ 1000 := by simp; omega
      generalize hL : T.take n = L at *
      have HL2 := Hid.mk hL
      clear hat hx hv2 hc hL
      obtain ⟨ua, uc, rfl⟩ := own_form HW.out.own
      unfold ptrV at *
      generalize (renA ι x).ow.map (fun b => (⟨b, 0, none⟩ : Addr)) = A at *
      simp only [renA_rn, renA_wk, renA_p, renA_file] at HC c0 c1 c2 c3 c4 c5 c6 c7
      generalize wp x (l.take n) = WL at *
      go_upto_region 5 with fail
      go_region_held3 (fun u => u.cell? ⟨wr.heap.size, 0, none⟩ = some (.int .i64 x.p) ∧ u.cell? ⟨wr.heap.size, 1, none⟩ = some (.int .i64 x.file) ∧ u.cell? ⟨wr.heap.size, 2, none⟩ = some (.int .i64 x.rn.p) ∧ u.cell? ⟨wr.heap.size, 3, none⟩ = some (.int .i64 x.rn.k) ∧ u.cell? ⟨wr.heap.size, 4, none⟩ = some (.int .i64 x.rn.f) ∧ u.cell? ⟨wr.heap.size, 5, none⟩ = some (.int .i64 x.rn.t) ∧ u.cell? ⟨wr.heap.size, 6, none⟩ = some (.pointer A) ∧ u.cell? ⟨wr.heap.size, 7, none⟩ = some (.int .i64 x.wk)) (simp [go_sem, World.cell?_alloc_past, *])
        (first
          | (go_at_call 58; refine (HC.out _ ?_).mono ?_; exact (HB.out.alloc hsz _).drew; rintro e w3 ⟨v3, us3, rfl, hwy, hb3⟩; obtain ⟨a3, c3, rfl⟩ := own_form hwy.own; have hz3 := hb3.size; simp at hz3; have hww : wr.heap.size < w3.heap.size := (by omega); have k0 : w3.cell? ⟨wr.heap.size, 0, none⟩ = some (.int .i64 x.p) := ((bcells hb3).1 _ _ (by simp)).trans (by simp); have k1 : w3.cell? ⟨wr.heap.size, 1, none⟩ = some (.int .i64 x.file) := ((bcells hb3).1 _ _ (by simp)).trans (by simp); have k2 : w3.cell? ⟨wr.heap.size, 2, none⟩ = some (.int .i64 x.rn.p) := ((bcells hb3).1 _ _ (by simp)).trans (by simp); have k3 : w3.cell? ⟨wr.heap.size, 3, none⟩ = some (.int .i64 x.rn.k) := ((bcells hb3).1 _ _ (by simp)).trans (by simp); have k4 : w3.cell? ⟨wr.heap.size, 4, none⟩ = some (.int .i64 x.rn.f) := ((bcells hb3).1 _ _ (by simp)).trans (by simp); have k5 : w3.cell? ⟨wr.heap.size, 5, none⟩ = some (.int .i64 x.rn.t) := ((bcells hb3).1 _ _ (by simp)).trans (by simp); have k6 : w3.cell? ⟨wr.heap.size, 6, none⟩ = some (.pointer A) := ((bcells hb3).1 _ _ (by simp)).trans (by simp); have k7 : w3.cell? ⟨wr.heap.size, 7, none⟩ = some (.int .i64 x.wk) := ((bcells hb3).1 _ _ (by simp)).trans (by simp); have HBW : Hid (Below wr.heap.size wr w3) := (((Below.refl _ _).alloc (Nat.le_refl _) _).drew).trans (hb3.mono (by simp)); have HY := Hid.mk hwy; clear hwy hb3)
          | (refine step_snoc (by rfl) _ _ _ (by rfl) Tryz.underlying148 Tryz.infoWaiter (by rfl) (by decide) (by decide) (by rfl) ((own_below HW.out.own HBW.out).alloc _) (by simp; omega) (by omega) (cs := #[.int .i64 x.p, .slice a3 WL.length c3]) (by rfl) (heap_alloc_new w3 _) (by rfl) (by simp [Value.oneCell']) ?_; intro v4 w4 ho4 hb4 hz4 hk4; have hbk := (hk4 wr.heap.size (Nat.lt_of_lt_of_le hww (by simp)) (fun e => by have := (HW.out.own.lt _ e).2; omega)).trans (Below.heap_alloc _ _ _ hww); have j0 := (World.cell?_of_block (a := ⟨wr.heap.size, 0, none⟩) hbk).trans k0; have j1 := (World.cell?_of_block (a := ⟨wr.heap.size, 1, none⟩) hbk).trans k1; have j2 := (World.cell?_of_block (a := ⟨wr.heap.size, 2, none⟩) hbk).trans k2; have j3 := (World.cell?_of_block (a := ⟨wr.heap.size, 3, none⟩) hbk).trans k3; have j4 := (World.cell?_of_block (a := ⟨wr.heap.size, 4, none⟩) hbk).trans k4; have j5 := (World.cell?_of_block (a := ⟨wr.heap.size, 5, none⟩) hbk).trans k5; have j6 := (World.cell?_of_block (a := ⟨wr.heap.size, 6, none⟩) hbk).trans k6; have j7 := (World.cell?_of_block (a := ⟨wr.heap.size, 7, none⟩) hbk).trans k7; have HO4 := Hid.mk ho4; have HB4 := Hid.mk hb4; have HK4 := Hid.mk hk4; clear ho4 hb4 hk4 hbk))
      go_wp2
      go_roundw
      case rel =>
        refine ⟨n + 1, us ++ [.slice a3 WL.length c3], by go_num, by omega, ?_, ((HB.out.trans (HBW.out.mono hsz)).alloc (by omega) _).trans (HB4.out.mono (by omega))⟩
        rw [HT.out]
        have hb5 : Below wr.heap.size wr (w3.alloc (.cells #[.int .i64 x.p, .slice a3 WL.length c3] 150)) := HBW.out.alloc (by omega) _
        exact (HW.out.below hb5).snoc (x := (x.p, WL)) (HY.out.below ((Below.refl _ _).alloc (Nat.le_refl _) _)) HO4.out HK4.out
      case measure => simp [intOf]; omega
    · obtain rfl : n = l.length := by omega
      have HW1 := HW.out
      rw [List.take_of_length_le (by omega)] at HW1
      have HW2 := Hid.mk HW1
      have HG := Hid.mk (Greatest_any (w := wr) ⟨HW1.len, own_mono HW1.own (Nat.zero_le _), HW1.each⟩ (by omega) HSH.out)
      clear HW HW1
      generalize hGG : greatF T = G at HG
      have HGG := Hid.mk hGG
      have hgb : G.length ≤ T.length := by rw [← hGG]; exact (greatN_short HSH.out _).2
      clear hGG
      rcases List.eq_nil_or_concat G with hG | ⟨G', y, hG⟩
      · have HGN : Hid (greatF T = []) := HGG.out.trans hG
        subst hG
        go_wp2_with (go_at_call 87; refine HG.out.mono ?_; rintro e w3 ⟨v3, us3, rfl, hwt, hb3⟩; obtain ⟨a3, c3, rfl⟩ := own_form hwt.own; have HB3 := Hid.mk hb3; clear hwt hb3)
        go_ret2
        exact ⟨by rw [HGN.out]; rfl, HB.out.trans (HB3.out.mono hsz)⟩
      · have hGl : G.length = G'.length + 1 := by rw [hG]; simp
        have hgb' : G'.length < 800 := by omega
        clear hgb
        have hgy : G[G'.length]? = some y := by rw [hG]; simp
        have HLA : Hid (G.getLast? = some y) := by show _ = _; rw [hG]; simp
        clear hG
        go_wp2_with (go_at_call 87; refine HG.out.mono ?_; rintro e w3 ⟨v3, us3, rfl, hwt, hb3⟩; obtain ⟨a3, c3, hv3⟩ := own_form hwt.own; rw [hv3] at hwt; obtain ⟨gg, u3, rfl, _, hgg, _, cc0, cc1⟩ := hwt.get hgy; rw [hGl] at hv3; subst hv3; clear hGl hgy; have HB3 := Hid.mk hb3; clear hwt hb3)
        go_ret2
        exact ⟨by rw [HGG.out, HLA.out]; rfl, HB.out.trans (HB3.out.mono hsz)⟩
end Go.Proofs.YtaicdjhblbobbabGreat

/- Contract of the Kernel's wake: whose waiting ends next, and how. -/
namespace Go.Proofs.YtaicdjhblbobbabGreat
open Go.RowKit Go.Lib

theorem DS.free?_is {s : DS} {n : Nat} {a : Ask} (ha : s.Q[n]? = some a) (hw : s.way a (s.Q.take n) = []) (h : ∀ j b, j < n → s.Q[j]? = some b → s.way b (s.Q.take j) ≠ []) : s.free? = some n := by
  cases hf : s.free? with
  | none => exact absurd hw (DS.free?_none hf n a ha)
  | some m =>
    obtain ⟨b, hb, hwb, hmin⟩ := DS.free?_some hf
    rcases Nat.lt_trichotomy m n with e | e | e
    · exact absurd hwb (h m b e hb)
    · rw [e]
    · exact absurd hw (hmin n a e ha)
theorem DS.free?_no {s : DS} (h : ∀ j b, s.Q[j]? = some b → s.way b (s.Q.take j) ≠ []) : s.free? = none := by
  cases hf : s.free? with
  | none => rfl
  | some m =>
    obtain ⟨b, hb, hwb, _⟩ := DS.free?_some hf
    exact absurd hwb (h m b hb)
/-- What wake tells, and the state behind it. -/
structure Wk where
  p : Int
  f : Int
  ok : Bool
  t : DS
def DS.wakeR (s : DS) : Wk := match s.wake? with
  | none => ⟨0, 10, false, s⟩
  | some (p, t, f) => ⟨p, f, true, t⟩
theorem DS.wakeR_free {s : DS} {n : Nat} {a : Ask} (ha : s.Q[n]? = some a) (hf : s.free? = some n) : s.wakeR = ⟨a.p, (s.take a).2, true, (s.take a).1⟩ := by
  unfold DS.wakeR DS.wake?
  simp only [hf, ha, Option.getD_some]
theorem DS.wakeR_last {s : DS} (h : s.Bas) (hf : s.free? = none) : s.wakeR = ⟨(lastP s.wts).getD 0, 10, (lastP s.wts).isSome, s⟩ := by
  rw [lastP_eq h.ones (DS.wts_is h.ones)]
  unfold DS.wakeR DS.wake?
  simp only [hf]
  cases s.last? with
  | none => rfl
  | some i => rfl

set_option maxHeartbeats 8000000 in
set_option maxRecDepth 100000 in
theorem wake_any {w : World} {kb tb mb : Nat} {g : Int} {P : Nat → Prop} {ι : Nat → Nat} {s : DS} {rv wv : Nat → Value} {qv : Value} {B : Nat} (h : KV w kb tb mb g P ι s rv wv qv) (hP : ∀ b, B ≤ b → P b) (hB : B ≤ w.heap.size) (hbas : s.Bas) :
    Calls Tryz.prog 79 #[.pointer (some ⟨kb, 0, none⟩)] w fun e w' => e = .returned (.tuple #[.int .i64 s.wakeR.p, .int .i64 s.wakeR.f, .bool s.wakeR.ok]) ∧ (∃ rv' wv', KV w' kb tb mb g P ι s.wakeR.t rv' wv' qv) ∧ Kp [kb] w w' := by
  have hql := h.sm.ql
  have hown := h.q
  obtain ⟨qa, qc, rfl⟩ := own_form h.q
  rw [renQ_len] at *
  have hkl := h.lt
  have H9 := Hid.mk (fun (W : World) (hb : Below w.heap.size w W) => (hb.cell (p := ⟨kb, 9, none⟩) hkl).trans h.c9)
  have HWY := Hid.mk (fun (W : World) (hb : Below w.heap.size w W) (n : Nat) (a : Ask) (hx : s.Q[n]? = some a) => by
    have hn : n < s.Q.length := (List.getElem?_eq_some_iff.1 hx).1
    have hcut : W.ownsRow 0 93 8 (.slice qa n qc) (renQ ι (s.Q.take n)).length (flatQ (renQ ι (s.Q.take n))) := by
      have h1 := own_below hown hb
      obtain ⟨gq, rfl, _⟩ := own_some h1 (by omega)
      have h2 := own_cut h1 (k := n) (by omega)
      rw [renQ_len, renQ_take, ← DelInv.flat (by rw [renQ_len]; omega), List.length_take, Nat.min_eq_left (by omega)]
      exact h2
    exact ways_any (h.below hb) a (h.sm.q a (List.mem_of_getElem? hx)) (.slice qa n qc) (s.Q.take n) (fun b hb => h.sm.q b (List.mem_of_mem_take hb)) (by rw [List.length_take]; omega) hcut)
  have HGV := Hid.mk (fun (W : World) (hb : Below w.heap.size w W) (n : Nat) (a : Ask) (hx : s.Q[n]? = some a) (hw : s.way a (s.Q.take n) = []) =>
    give_any (h.below hb) hP (by have := hb.size; omega) a (h.sm.q a (List.mem_of_getElem? hx)) (hbas.take (hbas.q a (List.mem_of_getElem? hx)).1 (DS.Clear.of_way hbas hw)).sm)
  have HLS := Hid.mk (fun (W : World) (hb : Below w.heap.size w W) => lastStuck_any (h.below hb) (.slice qa s.Q.length qc) s.Q h.sm.q (by omega) (own_below (by rw [renQ_len]; exact hown) hb))
  have HNIL := Hid.mk (fun (n : Nat) (a : Ask) (hx : s.Q[n]? = some a) => DS.wayP_nil (s := s) (hbas.ones.ahead hx))
  have HV := Hid.mk hown
  have HH := Hid.mk h
  have HBA := Hid.mk hbas
  clear h hbas hown
  go_enter Tryz.func79, Tryz.ntmps79
  have h9 := H9.out w (Below.refl _ _)
  go_wp2
  go_loopw [5, 14] (fun _ s14 wr => ∃ (n : Nat), s14 = .int .i64 n ∧ n ≤ s.Q.length ∧ Hid (∀ j b, j < n → s.Q[j]? = some b → s.way b (s.Q.take j) ≠ []) ∧ Hid (Below w.heap.size w wr)) (fun _ s14 _ => s.Q.length - (intOf s14).toNat)
  case atStart => exact ⟨0, rfl, Nat.zero_le _, fun j b hj => absurd hj (Nat.not_lt_zero _), Below.refl _ _⟩
  case round =>
    obtain ⟨n, rfl, hn, HF, HBr⟩ := hrel
    have hsz : w.heap.size ≤ wr.heap.size := HBr.out.size
    have h9r := H9.out wr HBr.out
    have hkr : kb < wr.heap.size := by omega
    by_cases hlt : n < s.Q.length
    · obtain ⟨x, hx⟩ : ∃ x, s.Q[n]? = some x := ⟨_, List.getElem?_eq_getElem hlt⟩
      have hv2 := HV.out
      obtain ⟨gb, rfl, _, hg, hqc, hat⟩ := askAt (l := renQ ι s.Q) (a := qa) (c := qc) (by rw [renQ_len]; exact hv2) (renQ_get hx)
      obtain ⟨c0, c1, c2, c3, c4, c5, c6, c7⟩ := hat.below HBr.out hg
      rw [renQ_len] at hqc
      have hlt' : (n : Int) < (s.Q.length : Int) := by omega
      have hgw : gb < wr.heap.size := by omega
      have hnc : (n : Int) ≤ (qc : Int) := by omega
      have hnc2 : n ≤ qc := by omega
      have hc := fun (W : World) (hb : Below w.heap.size w W) => HWY.out W hb n x hx
      have hgv := fun (W : World) (hb : Below w.heap.size w W) => HGV.out W hb n x hx
      have hnil := HNIL.out n x hx
      unfold askV at hc hgv
      have HC := Hid.mk hc
      have HG := Hid.mk hgv
      have HX := Hid.mk hx
      clear hat hx hv2 hc hgv HWY HGV HNIL
      unfold ptrV at *
      generalize (renA ι x).ow.map (fun b => (⟨b, 0, none⟩ : Addr)) = A at *
      simp only [renA_rn, renA_wk, renA_p, renA_file] at HC HG c0 c1 c2 c3 c4 c5 c6 c7
      by_cases hemp : s.wayP x (s.Q.take n) = []
      · have HE := Hid.mk (hnil.1 hemp)
        rw [hemp] at HC
        clear hemp hnil
        go_upto_region 4 with fail
        go_region_held3 (fun u => u.cell? ⟨kb, 9, none⟩ = some (.slice (some ⟨gb, 0, none⟩) s.Q.length qc) ∧ u.cell? ⟨wr.heap.size, 0, none⟩ = some (.int .i64 x.p) ∧ u.cell? ⟨wr.heap.size, 1, none⟩ = some (.int .i64 x.file) ∧ u.cell? ⟨wr.heap.size, 2, none⟩ = some (.int .i64 x.rn.p) ∧ u.cell? ⟨wr.heap.size, 3, none⟩ = some (.int .i64 x.rn.k) ∧ u.cell? ⟨wr.heap.size, 4, none⟩ = some (.int .i64 x.rn.f) ∧ u.cell? ⟨wr.heap.size, 5, none⟩ = some (.int .i64 x.rn.t) ∧ u.cell? ⟨wr.heap.size, 6, none⟩ = some (.pointer A) ∧ u.cell? ⟨wr.heap.size, 7, none⟩ = some (.int .i64 x.wk)) (simp [go_sem, World.cell?_alloc_past, *])
          (first
            | (go_at_call 58; refine (HC.out _ ?_).mono ?_; exact (HBr.out.alloc hsz _).drew; rintro e w3 ⟨v3, us3, rfl, hwy, hb3⟩; obtain ⟨a3, c3, rfl⟩ := own_form hwy.own; have hz3 := hb3.size; simp at hz3; have hww : wr.heap.size < w3.heap.size := (by omega); have k9 : w3.cell? ⟨kb, 9, none⟩ = some (.slice (some ⟨gb, 0, none⟩) s.Q.length qc) := ((bcells hb3).1 _ _ (by simp <;> omega)).trans ((World.cell?_alloc_past (w := wr) _ kb 9 hkr).trans h9r); have k0 : w3.cell? ⟨wr.heap.size, 0, none⟩ = some (.int .i64 x.p) := ((bcells hb3).1 _ _ (by simp)).trans (by simp); have k1 : w3.cell? ⟨wr.heap.size, 1, none⟩ = some (.int .i64 x.file) := ((bcells hb3).1 _ _ (by simp)).trans (by simp); have k2 : w3.cell? ⟨wr.heap.size, 2, none⟩ = some (.int .i64 x.rn.p) := ((bcells hb3).1 _ _ (by simp)).trans (by simp); have k3 : w3.cell? ⟨wr.heap.size, 3, none⟩ = some (.int .i64 x.rn.k) := ((bcells hb3).1 _ _ (by simp)).trans (by simp); have k4 : w3.cell? ⟨wr.heap.size, 4, none⟩ = some (.int .i64 x.rn.f) := ((bcells hb3).1 _ _ (by simp)).trans (by simp); have k5 : w3.cell? ⟨wr.heap.size, 5, none⟩ = some (.int .i64 x.rn.t) := ((bcells hb3).1 _ _ (by simp)).trans (by simp); have k6 : w3.cell? ⟨wr.heap.size, 6, none⟩ = some (.pointer A) := ((bcells hb3).1 _ _ (by simp)).trans (by simp); have k7 : w3.cell? ⟨wr.heap.size, 7, none⟩ = some (.int .i64 x.wk) := ((bcells hb3).1 _ _ (by simp)).trans (by simp); have HBW : Hid (Below w.heap.size w w3) := ((HBr.out.alloc hsz _).drew).trans (hb3.mono (by simp; omega)); clear hwy hb3))
        go_upto_region 5 with fail
        go_region_held3 (fun u => u.cell? ⟨wr.heap.size, 0, none⟩ = some (.int .i64 x.p) ∧ u.cell? ⟨wr.heap.size, 1, none⟩ = some (.int .i64 x.file) ∧ u.cell? ⟨wr.heap.size, 2, none⟩ = some (.int .i64 x.rn.p) ∧ u.cell? ⟨wr.heap.size, 3, none⟩ = some (.int .i64 x.rn.k) ∧ u.cell? ⟨wr.heap.size, 4, none⟩ = some (.int .i64 x.rn.f) ∧ u.cell? ⟨wr.heap.size, 5, none⟩ = some (.int .i64 x.rn.t) ∧ u.cell? ⟨wr.heap.size, 6, none⟩ = some (.pointer A) ∧ u.cell? ⟨wr.heap.size, 7, none⟩ = some (.int .i64 x.wk)) (simp [go_sem, *])
          (first
            | (go_at_call 59; refine (HG.out _ HBW.out.drew HE.out).mono ?_; rintro e w4 ⟨rfl, hkv, hkp⟩; have hbk := hkp.block wr.heap.size hww (by simp; omega); have j0 := (World.cell?_of_block (a := ⟨wr.heap.size, 0, none⟩) hbk).trans k0; have j1 := (World.cell?_of_block (a := ⟨wr.heap.size, 1, none⟩) hbk).trans k1; have j2 := (World.cell?_of_block (a := ⟨wr.heap.size, 2, none⟩) hbk).trans k2; have j3 := (World.cell?_of_block (a := ⟨wr.heap.size, 3, none⟩) hbk).trans k3; have j4 := (World.cell?_of_block (a := ⟨wr.heap.size, 4, none⟩) hbk).trans k4; have j5 := (World.cell?_of_block (a := ⟨wr.heap.size, 5, none⟩) hbk).trans k5; have j6 := (World.cell?_of_block (a := ⟨wr.heap.size, 6, none⟩) hbk).trans k6; have j7 := (World.cell?_of_block (a := ⟨wr.heap.size, 7, none⟩) hbk).trans k7; have HKV := Hid.mk hkv; have HKP : Hid (Kp [kb] w w4) := (Kp.below HBW.out.drew).trans hkp; clear hkv hkp hbk))
        go_wp2
        have HR := Hid.mk (DS.wakeR_free HX.out (DS.free?_is HX.out HE.out HF.out))
        refine bodyPost_ret (v := .tuple #[.int .i64 x.p, .int .i64 (s.take x).2, .bool true]) ?_ rfl ?_
        · simp [results, Tryz.results79, go_sem]
        · rw [HR.out]
          exact ⟨rfl, HKV.out, HKP.out⟩
      · have HE : Hid (s.way x (s.Q.take n) ≠ []) := fun e => hemp (hnil.2 e)
        have hpos : 0 < (s.wayP x (s.Q.take n)).length := List.length_pos_iff.2 hemp
        generalize s.wayP x (s.Q.take n) = WL at *
        clear hemp hnil
        go_upto_region 4 with fail
        go_region_held3 (fun u => u.cell? ⟨kb, 9, none⟩ = some (.slice (some ⟨gb, 0, none⟩) s.Q.length qc) ∧ u.cell? ⟨wr.heap.size, 0, none⟩ = some (.int .i64 x.p) ∧ u.cell? ⟨wr.heap.size, 1, none⟩ = some (.int .i64 x.file) ∧ u.cell? ⟨wr.heap.size, 2, none⟩ = some (.int .i64 x.rn.p) ∧ u.cell? ⟨wr.heap.size, 3, none⟩ = some (.int .i64 x.rn.k) ∧ u.cell? ⟨wr.heap.size, 4, none⟩ = some (.int .i64 x.rn.f) ∧ u.cell? ⟨wr.heap.size, 5, none⟩ = some (.int .i64 x.rn.t) ∧ u.cell? ⟨wr.heap.size, 6, none⟩ = some (.pointer A) ∧ u.cell? ⟨wr.heap.size, 7, none⟩ = some (.int .i64 x.wk)) (simp [go_sem, World.cell?_alloc_past, *])
          (first
            | (go_at_call 58; refine (HC.out _ ?_).mono ?_; exact (HBr.out.alloc hsz _).drew; rintro e w3 ⟨v3, us3, rfl, hwy, hb3⟩; obtain ⟨a3, c3, rfl⟩ := own_form hwy.own; have hz3 := hb3.size; simp at hz3; have hww : wr.heap.size < w3.heap.size := (by omega); have k9 : w3.cell? ⟨kb, 9, none⟩ = some (.slice (some ⟨gb, 0, none⟩) s.Q.length qc) := ((bcells hb3).1 _ _ (by simp <;> omega)).trans ((World.cell?_alloc_past (w := wr) _ kb 9 hkr).trans h9r); have k0 : w3.cell? ⟨wr.heap.size, 0, none⟩ = some (.int .i64 x.p) := ((bcells hb3).1 _ _ (by simp)).trans (by simp); have k1 : w3.cell? ⟨wr.heap.size, 1, none⟩ = some (.int .i64 x.file) := ((bcells hb3).1 _ _ (by simp)).trans (by simp); have k2 : w3.cell? ⟨wr.heap.size, 2, none⟩ = some (.int .i64 x.rn.p) := ((bcells hb3).1 _ _ (by simp)).trans (by simp); have k3 : w3.cell? ⟨wr.heap.size, 3, none⟩ = some (.int .i64 x.rn.k) := ((bcells hb3).1 _ _ (by simp)).trans (by simp); have k4 : w3.cell? ⟨wr.heap.size, 4, none⟩ = some (.int .i64 x.rn.f) := ((bcells hb3).1 _ _ (by simp)).trans (by simp); have k5 : w3.cell? ⟨wr.heap.size, 5, none⟩ = some (.int .i64 x.rn.t) := ((bcells hb3).1 _ _ (by simp)).trans (by simp); have k6 : w3.cell? ⟨wr.heap.size, 6, none⟩ = some (.pointer A) := ((bcells hb3).1 _ _ (by simp)).trans (by simp); have k7 : w3.cell? ⟨wr.heap.size, 7, none⟩ = some (.int .i64 x.wk) := ((bcells hb3).1 _ _ (by simp)).trans (by simp); have HBW : Hid (Below w.heap.size w w3) := ((HBr.out.alloc hsz _).drew).trans (hb3.mono (by simp; omega)); clear hwy hb3))
        go_wp2
        go_roundw
        case rel =>
          refine ⟨n + 1, by go_num, by omega, fun j b hj hb => ?_, HBW.out⟩
          by_cases e : j = n
          · subst e
            have := HX.out.symm.trans hb
            cases this
            exact HE.out
          · exact HF.out j b (by omega) hb
        case measure => simp [intOf]; omega
    · obtain rfl : n = s.Q.length := by omega
      have HFN : Hid (s.free? = none) := DS.free?_no fun j b hb => HF.out j b (List.getElem?_eq_some_iff.1 hb).1 hb
      have HR := Hid.mk (DS.wakeR_last HBA.out HFN.out)
      have HL := Hid.mk (HLS.out wr HBr.out)
      change Hid (Calls _ _ _ _ fun e w' => e = .returned (.tuple #[.int .i64 ((lastP s.wts).getD 0), .bool (lastP s.wts).isSome]) ∧ _) at HL
      generalize lastP s.wts = lp at *
      clear HWY HGV HNIL HLS
      go_wp2_with (go_at_call 61; refine HL.out.mono ?_; rintro e w3 ⟨rfl, hb3⟩; have HB3 := Hid.mk hb3; clear hb3)
      refine bodyPost_ret (v := .tuple #[.int .i64 (lp.getD 0), .int .i64 10, .bool lp.isSome]) ?_ rfl ?_
      · simp [results, Tryz.results79, go_sem]
      · rw [HR.out]
        have hbw := HBr.out.trans (HB3.out.mono hsz)
        exact ⟨rfl, ⟨rv, wv, HH.out.below hbw⟩, Kp.below hbw⟩
end Go.Proofs.YtaicdjhblbobbabGreat
