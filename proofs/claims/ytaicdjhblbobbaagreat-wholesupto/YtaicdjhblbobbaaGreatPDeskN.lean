/- Contracts of the document's answer, on: what is in the way of a lock of a whole file. -/
import Derived.Test.YtaicdjhblbobbaaGreatPDeskX
namespace Go.Proofs.YtaicdjhblbobbaaGreat
open Go.RowKit Go.Lib

set_option maxHeartbeats 16000000 in
set_option maxRecDepth 100000 in
theorem dWay_whole {w : World} {db : Nat} {P : Nat → Prop} {d : DK} {ov qv : Value} (h : DV w db P d ov qv) (hs : d.Sm) (a : Ask) (haw : a.whole = true) {n0 : Nat} (hn0 : n0 ≤ d.Q.length) :
    Calls Tryz.prog 169 #[dkPtr db, dAskV a, .int .i64 n0] w fun e w' => ∃ v' us, e = .returned v' ∧ WaysB w.heap.size w' v' (d.way a (d.Q.take n0)) us ∧ Below w.heap.size w w' := by
  have HE := Hid.mk (d.way_whole (d.Q.take n0) haw)
  have hol := hs.o
  have HHD := Hid.mk (fun (W : World) (hW : Below w.heap.size w W) (o : Nat) (ho : o < d.O.length) => dHeld_any (h.below hW) hs ho)
  have HSH := Hid.mk (fun (W : World) (hW : Below w.heap.size w W) (o : Nat) (ho : o < d.O.length) => dSharers_any (h.below hW) (o := o) (by omega))
  have HOC := Hid.mk (fun (W : World) (hW : Below w.heap.size w W) => (h.below hW).k.cO)
  have HOR := Hid.mk (fun (W : World) (hW : Below w.heap.size w W) => (h.below hW).o)
  have HWC := Hid.mk (fun n => show d.wayC a n = (decide (n ≠ a.o) && decide (d.file n = (a.file : Int)) && d.held n && biteB a.k (d.kind n)) from rfl)
  have HB := Hid.mk (fun x y (W : World) => dBites_any x y W)
  have HQ := Hid.mk (fun (W : World) (hW : Below w.heap.size w W) => (h.below hW).k.cQ)
  have HDW := Hid.mk (fun n => d.wayW_snoc a n)
  have HDL := Hid.mk (fun n => d.wayW_len a n)
  have HD0 := Hid.mk (show d.wayW a 0 = [] from rfl)
  have hdw := h.k.lt
  have hq7 := hs.q
  obtain ⟨qa, qc, rfl⟩ := own_form h.q
  have HR := Hid.mk h.q
  rw [HE.out]
  clear h hs HE
  unfold dkPtr dAskV at *
  generalize hl0 : d.Q = l at *
  clear hl0
  have HX0 := Hid.mk (heap_alloc_new w a.boxD)
  unfold Ask.boxD at HX0
  rw [haw] at HX0 ⊢
  have HWC2 : Hid (∀ (o : Nat) (x : Og), d.O[o]? = some x → d.wayC a o = (decide (o ≠ a.o) && decide (x.f = (a.file : Int)) && d.held o && biteB a.k x.k)) := fun o x hx => by rw [HWC.out, DK.file_set hx, DK.kind_set hx]
  clear HWC
  rename Hid (∀ (o : Nat) (x : Og), d.O[o]? = some x → d.wayC a o = (decide (o ≠ a.o) && decide (x.f = (a.file : Int)) && d.held o && biteB a.k x.k)) => HWC
  obtain ⟨oa, oc, hoe⟩ := own_form (HOR.out w (Below.refl _ _))
  subst hoe
  generalize hwh : d.wayW a = WH at *
  generalize hwc : d.wayC a = wc at *
  generalize hsh : d.sharers = sh at *
  generalize hhd : d.held = hdo at *
  generalize hO : d.O = O at *
  clear hwh hwc hsh hhd hO
  go_enter Tryz.func169, Tryz.ntmps169
  go_wp2
  go_loopw [7, 8, 9, 10, 11] (fun s7 s8 _ _ _ wr => ∃ (n : Nat) (us : List Value), s8 = .int .i64 n ∧ n ≤ n0 ∧ Hid (WaysB w.heap.size wr s7 (wayQ a (l.take n)) us) ∧ Hid (Below w.heap.size w wr) ∧ Hid (wr.heap[w.heap.size]? = some a.boxD)) (fun _ s8 _ _ _ _ => n0 - (intOf s8).toNat)
  case atStart =>
    refine ⟨0, [], rfl, Nat.zero_le _, WaysB.nil _ _, (Below.refl _ _).alloc (Nat.le_refl _) _, ?_⟩
    have hx := HX0.out
    unfold Ask.boxD
    rw [haw]
    exact hx
  case round =>
    obtain ⟨n, us, rfl, hn, HU, HBl, HX⟩ := hrel
    have hsz : w.heap.size ≤ wr.heap.size := HBl.out.size
    have hszl : w.heap.size < wr.heap.size := (Array.getElem?_eq_some_iff.1 HX.out).1
    obtain ⟨b0, b1, b2, b3, b4, b5, b6⟩ := BoxA.of HX.out
    rw [haw] at b3
    by_cases hlt : n < n0
    · have hlt' : (n : Int) < (n0 : Int) := by omega
      obtain ⟨x, hx⟩ : ∃ x, l[n]? = some x := ⟨_, List.getElem?_eq_getElem (by omega)⟩
      have hq := HQ.out wr HBl.out
      obtain ⟨g, rfl, hg, hat⟩ := askAtD (own_below HR.out HBl.out) hx
      obtain ⟨x0, x1, x2, x3, x4, x5, x6⟩ := hat
      have hdw' : db < wr.heap.size := by omega
      have hnl : (n : Int) < (l.length : Int) := by omega
      have HT := Hid.mk (wayQ_snoc (a := a) hx)
      have HBP := Hid.mk (bites_parts a x)
      have hll : (wayQ a (l.take n)).length ≤ 7 := Nat.le_trans (wayQ_len _ _) (by simp; omega)
      have HBx := Hid.mk (fun W => dBites_any a.k x.k W)
      generalize wayQ a (l.take n) = L at *
      obtain ⟨ua, uc, rfl⟩ := own_form HU.out.own
      clear hx
      cases hxw : x.whole
      · rw [hxw] at x3
        have HS : Hid (wayQ a (l.take (n + 1)) = L) := by show _ = _; rw [HT.out, HBP.out, if_neg (by simp [haw, hxw]), List.append_nil]
        go_wp2
        go_roundw
        case rel =>
          refine ⟨n + 1, us, by go_num, by omega, ?_, HBl.out.alloc hsz _, (Below.heap_alloc _ _ _ hszl).trans HX.out⟩
          rw [HS.out]
          exact HU.out.below ((Below.refl _ _).alloc (Nat.le_refl _) _)
        case measure => simp [intOf]; omega
      · rw [hxw] at x3
        by_cases hfe : x.file = a.file
        · rw [hfe] at x2
          by_cases h1 : x.t < a.f
          · by_cases hoe : x.o = a.o
            · rw [hoe] at x4
              have HS : Hid (wayQ a (l.take (n + 1)) = L) := by show _ = _; rw [HT.out, HBP.out, if_neg (by simp [haw, hoe]), List.append_nil]
              go_wp2_with (go_at_call 168; refine (HBx.out _).mono ?_; rintro e w1 ⟨rfl, hw⟩; have hw2 := hw.symm; clear hw; subst hw2)
              go_roundw
              case rel =>
                refine ⟨n + 1, us, by go_num, by omega, ?_, HBl.out.alloc hsz _, (Below.heap_alloc _ _ _ hszl).trans HX.out⟩
                rw [HS.out]
                exact HU.out.below ((Below.refl _ _).alloc (Nat.le_refl _) _)
              case measure => simp [intOf]; omega
            · have hoe' : ¬ ((x.o : Int) = (a.o : Int)) := by omega
              cases hbb : biteB a.k x.k
              · have HS : Hid (wayQ a (l.take (n + 1)) = L) := by show _ = _; rw [HT.out, HBP.out, if_neg (by simp [haw, hbb]), List.append_nil]
                rw [hbb] at HBx
                go_wp2_with (go_at_call 168; refine (HBx.out _).mono ?_; rintro e w1 ⟨rfl, hw⟩; have hw2 := hw.symm; clear hw; subst hw2)
                go_roundw
                case rel =>
                  refine ⟨n + 1, us, by go_num, by omega, ?_, HBl.out.alloc hsz _, (Below.heap_alloc _ _ _ hszl).trans HX.out⟩
                  rw [HS.out]
                  exact HU.out.below ((Below.refl _ _).alloc (Nat.le_refl _) _)
                case measure => simp [intOf]; omega
              · have hoe2 : ¬ (a.o = x.o) := fun e => hoe e.symm
                have HS : Hid (wayQ a (l.take (n + 1)) = L ++ [[x.p]]) := by show _ = _; rw [HT.out, HBP.out, if_pos (by simp [haw, hbb, hxw, hfe, hoe2])]
                clear hoe2
                rw [hbb] at HBx
                have HU2 := Hid.mk (HU.out.below ((Below.refl _ _).alloc (Nat.le_refl _) x.boxD))
                have HX2 := Hid.mk ((Below.heap_alloc wr x.boxD _ hszl).trans HX.out)
                have HB2 := Hid.mk (HBl.out.alloc hsz x.boxD)
                unfold Ask.boxD at HU2 HX2 HB2
                rw [hxw, hfe] at HU2 HX2 HB2
                go_wp2_with (first
                  | (go_at_call 168; refine (HBx.out _).mono ?_; rintro e w1 ⟨rfl, hw⟩; have hw2 := hw.symm; clear hw; subst hw2)
                  | (at_builtin; refine wpList_snocL rfl _ _ _ rfl Tryz.underlying189 Tryz.infoInts rfl (by decide) (by decide) rfl (HU2.out.own.alloc _) (by simp; omega) (by omega) (cs := #[.slice (some ⟨wr.heap.size + 1, 0, none⟩) 1 1]) rfl (by simp) rfl (by simp [Value.oneCell']) ?_; intro v2 w2 ho2 hb2 hz2 hold2 _; have HO2 := Hid.mk ho2; have HB3 := Hid.mk hb2; have HOL := Hid.mk hold2; clear ho2 hb2 hold2))
                go_roundw
                case rel =>
                  refine ⟨n + 1, us ++ [.slice (some ⟨wr.heap.size + 1, 0, none⟩) 1 1], by go_num, by omega, ?_, (HB2.out.alloc (by simp; omega) _).trans HB3.out, ?_⟩
                  · rw [HS.out]
                    have ho := own_one (w := wr.alloc (.cells #[.int .i64 x.p, .int .i64 x.k, .int .i64 (a.file : Int), .bool true, .int .i64 (x.o : Int), .int .i64 x.f, .int .i64 x.t] 218)) (B := w.heap.size) (by simp; omega) x.p
                    simp only [World.size_alloc] at ho
                    exact (HU2.out.below ((Below.refl _ _).alloc (Nat.le_refl _) _)).snoc ho HO2.out HOL.out
                  · refine (HOL.out w.heap.size (by simp; omega) fun e => ?_).trans ((Below.heap_alloc _ _ _ (by simp; omega)).trans HX2.out)
                    have := HU.out.own.lt _ e
                    obtain ⟨c1, k1⟩ := own_tag HU.out.own e
                    rw [HX.out] at k1
                    cases k1
                case measure => simp [intOf]; omega
          · by_cases h2 : a.t < x.f
            · by_cases hoe : x.o = a.o
              · rw [hoe] at x4
                have HS : Hid (wayQ a (l.take (n + 1)) = L) := by show _ = _; rw [HT.out, HBP.out, if_neg (by simp [haw, hoe]), List.append_nil]
                go_wp2_with (go_at_call 168; refine (HBx.out _).mono ?_; rintro e w1 ⟨rfl, hw⟩; have hw2 := hw.symm; clear hw; subst hw2)
                go_roundw
                case rel =>
                  refine ⟨n + 1, us, by go_num, by omega, ?_, HBl.out.alloc hsz _, (Below.heap_alloc _ _ _ hszl).trans HX.out⟩
                  rw [HS.out]
                  exact HU.out.below ((Below.refl _ _).alloc (Nat.le_refl _) _)
                case measure => simp [intOf]; omega
              · have hoe' : ¬ ((x.o : Int) = (a.o : Int)) := by omega
                cases hbb : biteB a.k x.k
                · have HS : Hid (wayQ a (l.take (n + 1)) = L) := by show _ = _; rw [HT.out, HBP.out, if_neg (by simp [haw, hbb]), List.append_nil]
                  rw [hbb] at HBx
                  go_wp2_with (go_at_call 168; refine (HBx.out _).mono ?_; rintro e w1 ⟨rfl, hw⟩; have hw2 := hw.symm; clear hw; subst hw2)
                  go_roundw
                  case rel =>
                    refine ⟨n + 1, us, by go_num, by omega, ?_, HBl.out.alloc hsz _, (Below.heap_alloc _ _ _ hszl).trans HX.out⟩
                    rw [HS.out]
                    exact HU.out.below ((Below.refl _ _).alloc (Nat.le_refl _) _)
                  case measure => simp [intOf]; omega
                · have hoe2 : ¬ (a.o = x.o) := fun e => hoe e.symm
                  have HS : Hid (wayQ a (l.take (n + 1)) = L ++ [[x.p]]) := by show _ = _; rw [HT.out, HBP.out, if_pos (by simp [haw, hbb, hxw, hfe, hoe2])]
                  clear hoe2
                  rw [hbb] at HBx
                  have HU2 := Hid.mk (HU.out.below ((Below.refl _ _).alloc (Nat.le_refl _) x.boxD))
                  have HX2 := Hid.mk ((Below.heap_alloc wr x.boxD _ hszl).trans HX.out)
                  have HB2 := Hid.mk (HBl.out.alloc hsz x.boxD)
                  unfold Ask.boxD at HU2 HX2 HB2
                  rw [hxw, hfe] at HU2 HX2 HB2
                  go_wp2_with (first
                    | (go_at_call 168; refine (HBx.out _).mono ?_; rintro e w1 ⟨rfl, hw⟩; have hw2 := hw.symm; clear hw; subst hw2)
                    | (at_builtin; refine wpList_snocL rfl _ _ _ rfl Tryz.underlying189 Tryz.infoInts rfl (by decide) (by decide) rfl (HU2.out.own.alloc _) (by simp; omega) (by omega) (cs := #[.slice (some ⟨wr.heap.size + 1, 0, none⟩) 1 1]) rfl (by simp) rfl (by simp [Value.oneCell']) ?_; intro v2 w2 ho2 hb2 hz2 hold2 _; have HO2 := Hid.mk ho2; have HB3 := Hid.mk hb2; have HOL := Hid.mk hold2; clear ho2 hb2 hold2))
                  go_roundw
                  case rel =>
                    refine ⟨n + 1, us ++ [.slice (some ⟨wr.heap.size + 1, 0, none⟩) 1 1], by go_num, by omega, ?_, (HB2.out.alloc (by simp; omega) _).trans HB3.out, ?_⟩
                    · rw [HS.out]
                      have ho := own_one (w := wr.alloc (.cells #[.int .i64 x.p, .int .i64 x.k, .int .i64 (a.file : Int), .bool true, .int .i64 (x.o : Int), .int .i64 x.f, .int .i64 x.t] 218)) (B := w.heap.size) (by simp; omega) x.p
                      simp only [World.size_alloc] at ho
                      exact (HU2.out.below ((Below.refl _ _).alloc (Nat.le_refl _) _)).snoc ho HO2.out HOL.out
                    · refine (HOL.out w.heap.size (by simp; omega) fun e => ?_).trans ((Below.heap_alloc _ _ _ (by simp; omega)).trans HX2.out)
                      have := HU.out.own.lt _ e
                      obtain ⟨c1, k1⟩ := own_tag HU.out.own e
                      rw [HX.out] at k1
                      cases k1
                  case measure => simp [intOf]; omega
            · by_cases hoe : x.o = a.o
              · rw [hoe] at x4
                have HS : Hid (wayQ a (l.take (n + 1)) = L) := by show _ = _; rw [HT.out, HBP.out, if_neg (by simp [haw, hoe]), List.append_nil]
                go_wp2_with (go_at_call 168; refine (HBx.out _).mono ?_; rintro e w1 ⟨rfl, hw⟩; have hw2 := hw.symm; clear hw; subst hw2)
                go_roundw
                case rel =>
                  refine ⟨n + 1, us, by go_num, by omega, ?_, HBl.out.alloc hsz _, (Below.heap_alloc _ _ _ hszl).trans HX.out⟩
                  rw [HS.out]
                  exact HU.out.below ((Below.refl _ _).alloc (Nat.le_refl _) _)
                case measure => simp [intOf]; omega
              · have hoe' : ¬ ((x.o : Int) = (a.o : Int)) := by omega
                cases hbb : biteB a.k x.k
                · have HS : Hid (wayQ a (l.take (n + 1)) = L) := by show _ = _; rw [HT.out, HBP.out, if_neg (by simp [haw, hbb]), List.append_nil]
                  rw [hbb] at HBx
                  go_wp2_with (go_at_call 168; refine (HBx.out _).mono ?_; rintro e w1 ⟨rfl, hw⟩; have hw2 := hw.symm; clear hw; subst hw2)
                  go_roundw
                  case rel =>
                    refine ⟨n + 1, us, by go_num, by omega, ?_, HBl.out.alloc hsz _, (Below.heap_alloc _ _ _ hszl).trans HX.out⟩
                    rw [HS.out]
                    exact HU.out.below ((Below.refl _ _).alloc (Nat.le_refl _) _)
                  case measure => simp [intOf]; omega
                · have hoe2 : ¬ (a.o = x.o) := fun e => hoe e.symm
                  have HS : Hid (wayQ a (l.take (n + 1)) = L ++ [[x.p]]) := by show _ = _; rw [HT.out, HBP.out, if_pos (by simp [haw, hbb, hxw, hfe, hoe2])]
                  clear hoe2
                  rw [hbb] at HBx
                  have HU2 := Hid.mk (HU.out.below ((Below.refl _ _).alloc (Nat.le_refl _) x.boxD))
                  have HX2 := Hid.mk ((Below.heap_alloc wr x.boxD _ hszl).trans HX.out)
                  have HB2 := Hid.mk (HBl.out.alloc hsz x.boxD)
                  unfold Ask.boxD at HU2 HX2 HB2
                  rw [hxw, hfe] at HU2 HX2 HB2
                  go_wp2_with (first
                    | (go_at_call 168; refine (HBx.out _).mono ?_; rintro e w1 ⟨rfl, hw⟩; have hw2 := hw.symm; clear hw; subst hw2)
                    | (at_builtin; refine wpList_snocL rfl _ _ _ rfl Tryz.underlying189 Tryz.infoInts rfl (by decide) (by decide) rfl (HU2.out.own.alloc _) (by simp; omega) (by omega) (cs := #[.slice (some ⟨wr.heap.size + 1, 0, none⟩) 1 1]) rfl (by simp) rfl (by simp [Value.oneCell']) ?_; intro v2 w2 ho2 hb2 hz2 hold2 _; have HO2 := Hid.mk ho2; have HB3 := Hid.mk hb2; have HOL := Hid.mk hold2; clear ho2 hb2 hold2))
                  go_roundw
                  case rel =>
                    refine ⟨n + 1, us ++ [.slice (some ⟨wr.heap.size + 1, 0, none⟩) 1 1], by go_num, by omega, ?_, (HB2.out.alloc (by simp; omega) _).trans HB3.out, ?_⟩
                    · rw [HS.out]
                      have ho := own_one (w := wr.alloc (.cells #[.int .i64 x.p, .int .i64 x.k, .int .i64 (a.file : Int), .bool true, .int .i64 (x.o : Int), .int .i64 x.f, .int .i64 x.t] 218)) (B := w.heap.size) (by simp; omega) x.p
                      simp only [World.size_alloc] at ho
                      exact (HU2.out.below ((Below.refl _ _).alloc (Nat.le_refl _) _)).snoc ho HO2.out HOL.out
                    · refine (HOL.out w.heap.size (by simp; omega) fun e => ?_).trans ((Below.heap_alloc _ _ _ (by simp; omega)).trans HX2.out)
                      have := HU.out.own.lt _ e
                      obtain ⟨c1, k1⟩ := own_tag HU.out.own e
                      rw [HX.out] at k1
                      cases k1
                  case measure => simp [intOf]; omega
        · have hfe2 : ¬ (a.file = x.file) := fun e => hfe e.symm
          have HS : Hid (wayQ a (l.take (n + 1)) = L) := by show _ = _; rw [HT.out, HBP.out, if_neg (by simp [hfe2]), List.append_nil]
          clear hfe2
          have hfe' : ¬ ((x.file : Int) = (a.file : Int)) := by omega
          go_wp2
          go_roundw
          case rel =>
            refine ⟨n + 1, us, by go_num, by omega, ?_, HBl.out.alloc hsz _, (Below.heap_alloc _ _ _ hszl).trans HX.out⟩
            rw [HS.out]
            exact HU.out.below ((Below.refl _ _).alloc (Nat.le_refl _) _)
          case measure => simp [intOf]; omega
    · obtain rfl : n = n0 := by omega
      generalize hwq : wayQ a (l.take n) = L at *
      have hll : L.length ≤ 7 := by rw [← hwq]; exact Nat.le_trans (wayQ_len _ _) (by simp; omega)
      have HWQ := Hid.mk hwq
      clear hwq
      go_wp2
      go_loopw [7, 14, 15, 16, 17] (fun s7 s14 _ _ _ wq => ∃ (o : Nat) (us : List Value), s14 = .int .i64 o ∧ o ≤ O.length ∧ Hid (WaysB w.heap.size wq s7 (L ++ WH o) us) ∧ Hid (Below w.heap.size w wq) ∧ Hid (wq.heap[w.heap.size]? = some a.boxD)) (fun _ s14 _ _ _ _ => O.length - (intOf s14).toNat)
      case atStart =>
        refine ⟨0, us, rfl, Nat.zero_le _, ?_, HBl.out, HX.out⟩
        rw [HD0.out, List.append_nil]
        exact HU.out
      case round =>
        clear HU HBl HX hlt b0 b1 b2 b3 b4 b5 b6 hsz hszl
        obtain ⟨o, us, rfl, ho, HU, HBl, HX⟩ := hrel
        have hsz : w.heap.size ≤ wr.heap.size := HBl.out.size
        have hszl : w.heap.size < wr.heap.size := (Array.getElem?_eq_some_iff.1 HX.out).1
        have hcO := HOC.out wr HBl.out
        by_cases hol2 : o < O.length
        · have hol3 : (o : Int) < (O.length : Int) := by omega
          obtain ⟨x, hx⟩ : ∃ x, O[o]? = some x := ⟨_, List.getElem?_eq_getElem hol2⟩
          have HHW := Hid.mk (HHD.out wr HBl.out o hol2)
          have HT := Hid.mk (HDW.out o)
          have HC := Hid.mk (HWC.out o x hx)
          have hl2 : (L ++ WH o).length ≤ 10000007 := by rw [List.length_append]; have := HDL.out o; omega
          have HLL := Hid.mk (show L ++ WH (o + 1) = (L ++ WH o) ++ (if wc o = true then [sh o] else []) by rw [HT.out, List.append_assoc])
          generalize L ++ WH o = LL at *
          obtain ⟨ua, uc, rfl⟩ := own_form HU.out.own
          generalize hdo o = hd at *
          have HBx := Hid.mk (fun W => dBites_any a.k x.k W)
          obtain ⟨g0, hg0, _⟩ := ogAt (HOR.out wr HBl.out) hx
          subst hg0
          go_wp2_with (go_at_call 134; refine HHW.out.mono ?_; rintro e w1 ⟨rfl, hb1⟩; have hz1 := hb1.size; have hbb1 := HBl.out.trans (hb1.mono hsz); obtain ⟨g1, hg1, hgl, k0, k1, _⟩ := ogAt (HOR.out w1 hbb1) hx; cases hg1; have hX1 := (hb1.block _ hszl).trans HX.out; obtain ⟨b0, b1, b2, b3, b4, b5, b6⟩ := BoxA.of hX1; have hcO1 := HOC.out w1 hbb1; have HB1 := Hid.mk hb1; have HBB1 := Hid.mk hbb1; have HX1 := Hid.mk hX1; clear hb1 hbb1 hX1)
          have hdw1 : db < w1.heap.size := by omega
          have hwl1 : w.heap.size < w1.heap.size := by omega
          go_quiet ((go_at_call 168; exact Calls.quiet_of_same (HBx.out _)))
          have HUL := Hid.mk (HU.out.below HB1.out)
          by_cases hoe : o = a.o
          · have hoe' : (a.o : Int) = (o : Int) := by omega
            rw [hoe'] at b4
            have HS : Hid (L ++ WH (o + 1) = LL) := by show _ = _; rw [HLL.out, HC.out, if_neg (by simp [hoe]), List.append_nil]
            clear hoe hoe'
            go_wp2
            go_quiet (fail)
            go_wp2
            go_roundw
            case rel => exact ⟨o + 1, us, by go_num, by omega, by rw [HS.out]; exact HUL.out.below (Below.drewN (Below.refl _ _) _), Below.drewN HBB1.out _, HX1.out⟩
            case measure => simp [intOf]; omega
          · have hoe' : ¬ ((o : Int) = (a.o : Int)) := by omega
            by_cases hfe : x.f = (a.file : Int)
            · rw [hfe] at k0
              cases hd
              · have HS : Hid (L ++ WH (o + 1) = LL) := by show _ = _; rw [HLL.out, HC.out, if_neg (by simp), List.append_nil]
                go_wp2
                go_quiet (fail)
                go_wp2
                go_roundw
                case rel => exact ⟨o + 1, us, by go_num, by omega, by rw [HS.out]; exact HUL.out.below (Below.drewN (Below.refl _ _) _), Below.drewN HBB1.out _, HX1.out⟩
                case measure => simp [intOf]; omega
              · cases hbb : biteB a.k x.k
                · have HS : Hid (L ++ WH (o + 1) = LL) := by show _ = _; rw [HLL.out, HC.out, if_neg (by simp [hbb]), List.append_nil]
                  go_wp2
                  go_quiet (fail)
                  go_wp2
                  go_roundw
                  case rel => exact ⟨o + 1, us, by go_num, by omega, by rw [HS.out]; exact HUL.out.below (Below.drewN (Below.refl _ _) _), Below.drewN HBB1.out _, HX1.out⟩
                  case measure => simp [intOf]; omega
                · have HS : Hid (L ++ WH (o + 1) = LL ++ [sh o]) := by show _ = _; rw [HLL.out, HC.out, if_pos (by simp [hbb, hfe, hoe])]
                  have HSW := Hid.mk (fun W hW => HSH.out W hW o hol2)
                  go_wp2
                  go_quiet (fail)
                  go_wp2_with (first
                    | (go_at_call 135; refine (HSW.out _ ?_).mono ?_; (first | exact HBB1.out | exact Below.drewN HBB1.out _ | exact Below.drewN (Below.drewN HBB1.out _) _); rintro e w3 ⟨v3, rfl, ho3, hb3⟩; obtain ⟨a3, c3, rfl⟩ := own_form ho3; have hb4 : Below w1.heap.size w1 w3 := ⟨hb3.os, hb3.tape, hb3.output, hb3.size, hb3.block⟩; have hz3 : w1.heap.size ≤ w3.heap.size := hb3.size; have HO3 : Hid (w3.ownsRow w.heap.size 3 1 (.slice a3 (sh o).length c3) (sh o).length (ints (sh o))) := own_mono ho3 (Nat.le_trans hsz hz1); have HB4 := Hid.mk hb4; clear ho3 hb3 hb4)
                    | (at_builtin; refine wpList_snocL rfl _ _ _ rfl Tryz.underlying189 Tryz.infoInts rfl (by decide) (by decide) rfl (own_below HUL.out.own HB4.out) (by omega) (by omega) (cs := #[.slice a3 (sh o).length c3]) rfl (by simp) rfl (by simp [Value.oneCell']) ?_; intro v5 w5 ho5 hb5 hz5 hold5 _; have HO5 := Hid.mk ho5; have HB5 := Hid.mk hb5; have HOL := Hid.mk hold5; clear ho5 hb5 hold5))
                  go_roundw
                  case rel =>
                    refine ⟨o + 1, us ++ [.slice a3 (sh o).length c3], by go_num, by omega, ?_, (HBB1.out.trans (HB4.out.mono (by omega))).trans HB5.out, ?_⟩
                    · rw [HS.out]
                      exact (HUL.out.below HB4.out).snoc HO3.out HO5.out HOL.out
                    · refine (HOL.out w.heap.size (by omega) fun e => ?_).trans ((HB4.out.block _ hwl1).trans HX1.out)
                      obtain ⟨q1, k1⟩ := own_tag HUL.out.own e
                      rw [HX1.out] at k1
                      cases k1
                  case measure => simp [intOf]; omega
            · have HS : Hid (L ++ WH (o + 1) = LL) := by show _ = _; rw [HLL.out, HC.out, if_neg (by simp [hfe]), List.append_nil]
              go_wp2
              go_quiet (fail)
              go_wp2
              go_roundw
              case rel => exact ⟨o + 1, us, by go_num, by omega, by rw [HS.out]; exact HUL.out.below (Below.drewN (Below.refl _ _) _), Below.drewN HBB1.out _, HX1.out⟩
              case measure => simp [intOf]; omega
        · obtain rfl : o = O.length := by omega
          go_wp2
          go_ret
          exact ⟨_, us, rfl, by rw [HWQ.out]; exact HU.out, HBl.out⟩
end Go.Proofs.YtaicdjhblbobbaaGreat
