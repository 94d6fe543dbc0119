/- Contracts of the document's answer, on: what is in the way of a lock of positions. -/
import Derived.Test.YtaicdjhblbobbaaGreatPDeskH
import Derived.Test.YtaicdjhblbobbaaGreatPDeskA
import Derived.Test.YtaicdjhblbobbaaGreatPDeskY
import Derived.Test.YtaicdjhblbobbaaGreatPRen
namespace Go.Proofs.YtaicdjhblbobbaaGreat
open Go.RowKit Go.Lib

/-- The box of what is asked for. -/
structure BoxA (W : World) (b : Nat) (a : Ask) : Prop where
  c0 : W.cell? ⟨b, 0, none⟩ = some (.int .i64 a.p)
  c1 : W.cell? ⟨b, 1, none⟩ = some (.int .i64 a.k)
  c2 : W.cell? ⟨b, 2, none⟩ = some (.int .i64 a.file)
  c3 : W.cell? ⟨b, 3, none⟩ = some (.bool a.whole)
  c4 : W.cell? ⟨b, 4, none⟩ = some (.int .i64 a.o)
  c5 : W.cell? ⟨b, 5, none⟩ = some (.int .i64 a.f)
  c6 : W.cell? ⟨b, 6, none⟩ = some (.int .i64 a.t)
theorem BoxA.of {W : World} {b : Nat} {a : Ask} (h : W.heap[b]? = some a.boxD) : BoxA W b a := by
  unfold Ask.boxD at h
  refine ⟨?_, ?_, ?_, ?_, ?_, ?_, ?_⟩ <;> (simp only [World.cell?, h]; rfl)
theorem bites_parts (a b : Ask) : a.bites b = ((a.whole == b.whole) && decide (a.file = b.file) && biteB a.k b.k && (if a.whole then decide (a.o ≠ b.o) else meetsB a.f a.t b.f b.t)) := rfl

set_option maxHeartbeats 16000000 in
set_option maxRecDepth 100000 in
theorem dWay_range {w : World} {db : Nat} {P : Nat → Prop} {d : DK} {ov qv : Value} (h : DV w db P d ov qv) (hs : d.Sm) (a : Ask) (haw : a.whole = false) (hf : a.file < 3) (hr : 0 ≤ a.f ∧ a.f ≤ a.t ∧ a.t ≤ 63) {n0 : Nat} (hn0 : n0 ≤ d.Q.length) :
    Calls Tryz.prog 169 #[dkPtr db, dAskV a, .int .i64 n0] w fun e w' => ∃ v' us, e = .returned v' ∧ WaysB w.heap.size w' v' (d.way a (d.Q.take n0)) us ∧ Below w.heap.size w w' := by
  have HE := Hid.mk (d.way_range (d.Q.take n0) haw)
  have HH := Hid.mk (fun (W : World) (hW : Below w.heap.size w W) => dHolders_any (h.below hW) a hf hr)
  have HB := Hid.mk (fun x y (W : World) => dBites_any x y W)
  have HQ := Hid.mk (fun (W : World) (hW : Below w.heap.size w W) => (h.below hW).k.cQ)
  have HDW := Hid.mk (fun n (hn : n < 6) => d.wayH_snoc a hn)
  have HDL := Hid.mk (fun n => d.wayH_len a n)
  have HD0 := Hid.mk (show d.wayH a 0 = [] from rfl)
  have hdw := h.k.lt
  have hq7 := hs.q
  obtain ⟨qa, qc, rfl⟩ := own_form h.q
  have HR := Hid.mk h.q
  rw [HE.out]
  clear h hs HE
  unfold dkPtr dAskV at *
  generalize hl0 : d.Q = l at *
  clear hl0
  have HX0 := Hid.mk (heap_alloc_new w a.boxD)
  unfold Ask.boxD at HX0
  rw [haw] at HX0 HH ⊢
  generalize hwh : d.wayH a = WH at *
  generalize hdh : d.hold a = DH at *
  clear hwh hdh
  go_enter Tryz.func169, Tryz.ntmps169
  go_wp2
  go_loopw [7, 8, 9, 10, 11] (fun s7 s8 _ _ _ wr => ∃ (n : Nat) (us : List Value), s8 = .int .i64 n ∧ n ≤ n0 ∧ Hid (WaysB w.heap.size wr s7 (wayQ a (l.take n)) us) ∧ Hid (Below w.heap.size w wr) ∧ Hid (wr.heap[w.heap.size]? = some a.boxD)) (fun _ s8 _ _ _ _ => n0 - (intOf s8).toNat)
  case atStart =>
    refine ⟨0, [], rfl, Nat.zero_le _, WaysB.nil _ _, (Below.refl _ _).alloc (Nat.le_refl _) _, ?_⟩
    have hx := HX0.out
    unfold Ask.boxD
    rw [haw]
    exact hx
  case round =>
    obtain ⟨n, us, rfl, hn, HU, HBl, HX⟩ := hrel
    have hsz : w.heap.size ≤ wr.heap.size := HBl.out.size
    have hszl : w.heap.size < wr.heap.size := (Array.getElem?_eq_some_iff.1 HX.out).1
    obtain ⟨b0, b1, b2, b3, b4, b5, b6⟩ := BoxA.of HX.out
    rw [haw] at b3
    by_cases hlt : n < n0
    · have hlt' : (n : Int) < (n0 : Int) := by omega
      obtain ⟨x, hx⟩ : ∃ x, l[n]? = some x := ⟨_, List.getElem?_eq_getElem (by omega)⟩
      have hq := HQ.out wr HBl.out
      obtain ⟨g, rfl, hg, hat⟩ := askAtD (own_below HR.out HBl.out) hx
      obtain ⟨x0, x1, x2, x3, x4, x5, x6⟩ := hat
      have hdw' : db < wr.heap.size := by omega
      have hnl : (n : Int) < (l.length : Int) := by omega
      have HT := Hid.mk (wayQ_snoc (a := a) hx)
      have HBP := Hid.mk (bites_parts a x)
      have hll : (wayQ a (l.take n)).length ≤ 7 := Nat.le_trans (wayQ_len _ _) (by simp; omega)
      have HBx := Hid.mk (fun W => dBites_any a.k x.k W)
      generalize wayQ a (l.take n) = L at *
      obtain ⟨ua, uc, rfl⟩ := own_form HU.out.own
      clear hx
      cases hxw : x.whole
      · rw [hxw] at x3
        by_cases hfe : x.file = a.file
        · rw [hfe] at x2
          by_cases h1 : x.t < a.f
          · have HS : Hid (wayQ a (l.take (n + 1)) = L) := by show _ = _; rw [HT.out, HBP.out, if_neg (by simp [haw, meetsB]; omega), List.append_nil]
            go_wp2_with (go_at_call 168; refine (HBx.out _).mono ?_; rintro e w1 ⟨rfl, hw⟩; have hw2 := hw.symm; clear hw; subst hw2)
            go_roundw
            case rel =>
              refine ⟨n + 1, us, by go_num, by omega, ?_, HBl.out.alloc hsz _, (Below.heap_alloc _ _ _ hszl).trans HX.out⟩
              rw [HS.out]
              exact HU.out.below ((Below.refl _ _).alloc (Nat.le_refl _) _)
            case measure => simp [intOf]; omega
          · by_cases h2 : a.t < x.f
            · have HS : Hid (wayQ a (l.take (n + 1)) = L) := by show _ = _; rw [HT.out, HBP.out, if_neg (by simp [haw, meetsB]; omega), List.append_nil]
              go_wp2_with (go_at_call 168; refine (HBx.out _).mono ?_; rintro e w1 ⟨rfl, hw⟩; have hw2 := hw.symm; clear hw; subst hw2)
              go_roundw
              case rel =>
                refine ⟨n + 1, us, by go_num, by omega, ?_, HBl.out.alloc hsz _, (Below.heap_alloc _ _ _ hszl).trans HX.out⟩
                rw [HS.out]
                exact HU.out.below ((Below.refl _ _).alloc (Nat.le_refl _) _)
              case measure => simp [intOf]; omega
            · cases hbb : biteB a.k x.k
              · have HS : Hid (wayQ a (l.take (n + 1)) = L) := by show _ = _; rw [HT.out, HBP.out, if_neg (by simp [haw, hbb]), List.append_nil]
                rw [hbb] at HBx
                go_wp2_with (go_at_call 168; refine (HBx.out _).mono ?_; rintro e w1 ⟨rfl, hw⟩; have hw2 := hw.symm; clear hw; subst hw2)
                go_roundw
                case rel =>
                  refine ⟨n + 1, us, by go_num, by omega, ?_, HBl.out.alloc hsz _, (Below.heap_alloc _ _ _ hszl).trans HX.out⟩
                  rw [HS.out]
                  exact HU.out.below ((Below.refl _ _).alloc (Nat.le_refl _) _)
                case measure => simp [intOf]; omega
              · have HS : Hid (wayQ a (l.take (n + 1)) = L ++ [[x.p]]) := by show _ = _; rw [HT.out, HBP.out, if_pos (by simp [haw, hbb, hxw, hfe, meetsB]; omega)]
                rw [hbb] at HBx
                have HU2 := Hid.mk (HU.out.below ((Below.refl _ _).alloc (Nat.le_refl _) x.boxD))
                have HX2 := Hid.mk ((Below.heap_alloc wr x.boxD _ hszl).trans HX.out)
                have HB2 := Hid.mk (HBl.out.alloc hsz x.boxD)
                unfold Ask.boxD at HU2 HX2 HB2
                rw [hxw, hfe] at HU2 HX2 HB2
                go_wp2_with (first
                  | (go_at_call 168; refine (HBx.out _).mono ?_; rintro e w1 ⟨rfl, hw⟩; have hw2 := hw.symm; clear hw; subst hw2)
                  | (at_builtin; refine wpList_snocL rfl _ _ _ rfl Tryz.underlying189 Tryz.infoInts rfl (by decide) (by decide) rfl (HU2.out.own.alloc _) (by simp; omega) (by omega) (cs := #[.slice (some ⟨wr.heap.size + 1, 0, none⟩) 1 1]) rfl (by simp) rfl (by simp [Value.oneCell']) ?_; intro v2 w2 ho2 hb2 hz2 hold2 _; have HO2 := Hid.mk ho2; have HB3 := Hid.mk hb2; have HOL := Hid.mk hold2; clear ho2 hb2 hold2))
                go_roundw
                case rel =>
                  refine ⟨n + 1, us ++ [.slice (some ⟨wr.heap.size + 1, 0, none⟩) 1 1], by go_num, by omega, ?_, (HB2.out.alloc (by simp; omega) _).trans HB3.out, ?_⟩
                  · rw [HS.out]
                    have ho := own_one (w := wr.alloc (.cells #[.int .i64 x.p, .int .i64 x.k, .int .i64 (a.file : Int), .bool false, .int .i64 (x.o : Int), .int .i64 x.f, .int .i64 x.t] 218)) (B := w.heap.size) (by simp; omega) x.p
                    simp only [World.size_alloc] at ho
                    exact (HU2.out.below ((Below.refl _ _).alloc (Nat.le_refl _) _)).snoc ho HO2.out HOL.out
                  · refine (HOL.out w.heap.size (by simp; omega) fun e => ?_).trans ((Below.heap_alloc _ _ _ (by simp; omega)).trans HX2.out)
                    have := HU.out.own.lt _ e
                    obtain ⟨c1, k1⟩ := own_tag HU.out.own e
                    rw [HX.out] at k1
                    cases k1
                case measure => simp [intOf]; omega
        · have hfe2 : ¬ (a.file = x.file) := fun e => hfe e.symm
          have HS : Hid (wayQ a (l.take (n + 1)) = L) := by show _ = _; rw [HT.out, HBP.out, if_neg (by simp [hfe2]), List.append_nil]
          clear hfe2
          have hfe' : ¬ ((x.file : Int) = (a.file : Int)) := by omega
          go_wp2
          go_roundw
          case rel =>
            refine ⟨n + 1, us, by go_num, by omega, ?_, HBl.out.alloc hsz _, (Below.heap_alloc _ _ _ hszl).trans HX.out⟩
            rw [HS.out]
            exact HU.out.below ((Below.refl _ _).alloc (Nat.le_refl _) _)
          case measure => simp [intOf]; omega
      · rw [hxw] at x3
        have HS : Hid (wayQ a (l.take (n + 1)) = L) := by show _ = _; rw [HT.out, HBP.out, if_neg (by simp [haw, hxw]), List.append_nil]
        go_wp2
        go_roundw
        case rel =>
          refine ⟨n + 1, us, by go_num, by omega, ?_, HBl.out.alloc hsz _, (Below.heap_alloc _ _ _ hszl).trans HX.out⟩
          rw [HS.out]
          exact HU.out.below ((Below.refl _ _).alloc (Nat.le_refl _) _)
        case measure => simp [intOf]; omega
    · obtain rfl : n = n0 := by omega
      have HHw := Hid.mk (HH.out wr HBl.out)
      unfold bs6 at HHw
      generalize hwq : wayQ a (l.take n) = L at *
      have hll : L.length ≤ 7 := by rw [← hwq]; exact Nat.le_trans (wayQ_len _ _) (by simp; omega)
      have HWQ := Hid.mk hwq
      clear hwq
      go_wp2_with (go_at_call 140; refine HHw.out.mono ?_; rintro e w2 ⟨rfl, hb2⟩; have hz2 := hb2.size; have HSX := Hid.mk (show Six (w2.alloc (.cells (bs6 fun q => DH q) 155)) w2.heap.size fun q => DH q from heap_alloc_new w2 _); have HB2 := Hid.mk hb2; clear hb2)
      unfold bs6 at HSX
      go_loopw [7, 13] (fun s7 s13 wq => ∃ (q : Nat) (us : List Value), s13 = .int .i64 q ∧ q ≤ 6 ∧ Hid (WaysB w.heap.size wq s7 (L ++ WH q) us) ∧ Hid (Below w.heap.size w wq) ∧ Hid (Six wq w2.heap.size fun q => DH q)) (fun _ s13 _ => 6 - (intOf s13).toNat)
      case atStart =>
        refine ⟨0, us, rfl, Nat.zero_le _, ?_, ?_, HSX.out⟩
        · rw [HD0.out, List.append_nil]
          exact (HU.out.below HB2.out).below ((Below.refl _ _).alloc (Nat.le_refl _) _)
        · exact (HBl.out.trans (HB2.out.mono hsz)).alloc (by omega) _
      case round =>
        clear HU HBl HSX hlt
        obtain ⟨q, us, rfl, hq, HU, HBl, HSX⟩ := hrel
        have hsz : w.heap.size ≤ wr.heap.size := HBl.out.size
        by_cases hq6 : q < 6
        · have hq6' : (q : Int) < 6 := by omega
          have HT := Hid.mk (HDW.out q hq6)
          have hcell := HSX.out.cell hq6
          have hl2 : (L ++ WH q).length ≤ 13 := by rw [List.length_append]; have := HDL.out q; omega
          have HLL := Hid.mk (show L ++ WH (q + 1) = (L ++ WH q) ++ (if DH (q : Int) = true then [[(q : Int)]] else []) by rw [HT.out, List.append_assoc])
          generalize L ++ WH q = LL at *
          obtain ⟨ua, uc, rfl⟩ := own_form HU.out.own
          cases hdq : DH (q : Int)
          · rw [hdq] at hcell
            have HS : Hid (L ++ WH (q + 1) = LL) := by show _ = _; rw [HLL.out, hdq, if_neg (by simp), List.append_nil]
            go_wp2
            go_roundw
            case rel => exact ⟨q + 1, us, by go_num, by omega, by rw [HS.out]; exact HU.out, HBl.out, HSX.out⟩
            case measure => simp [intOf]; omega
          · rw [hdq] at hcell
            have HS : Hid (L ++ WH (q + 1) = LL ++ [[(q : Int)]]) := by show _ = _; rw [HLL.out, hdq, if_pos rfl]
            go_wp2_with (at_builtin; refine wpList_snocL rfl _ _ _ rfl Tryz.underlying189 Tryz.infoInts rfl (by decide) (by decide) rfl (HU.out.own.alloc _) (by simp; omega) (by omega) (cs := #[.slice (some ⟨wr.heap.size, 0, none⟩) 1 1]) rfl (by simp) rfl (by simp [Value.oneCell']) ?_; intro v3 w3 ho3 hb3 hz3 hold3 _; have HO3 := Hid.mk ho3; have HB3 := Hid.mk hb3; have HOL := Hid.mk hold3; clear ho3 hb3 hold3)
            go_roundw
            case rel =>
              refine ⟨q + 1, us ++ [.slice (some ⟨wr.heap.size, 0, none⟩) 1 1], by go_num, by omega, ?_, (HBl.out.alloc hsz _).trans HB3.out, ?_⟩
              · rw [HS.out]
                exact (HU.out.below ((Below.refl _ _).alloc (Nat.le_refl _) _)).snoc (own_one hsz q) HO3.out HOL.out
              · have hsx := HSX.out
                unfold Six at hsx ⊢
                have hwl := (Array.getElem?_eq_some_iff.1 hsx).1
                refine (HOL.out w2.heap.size (by simp; omega) fun e => ?_).trans ((Below.heap_alloc _ _ _ hwl).trans hsx)
                obtain ⟨c1, k1⟩ := own_tag HU.out.own e
                rw [hsx] at k1
                cases k1
            case measure => simp [intOf]; omega
        · obtain rfl : q = 6 := by omega
          go_wp2
          go_ret
          exact ⟨_, us, rfl, by rw [HWQ.out]; exact HU.out, HBl.out⟩
end Go.Proofs.YtaicdjhblbobbaaGreat
