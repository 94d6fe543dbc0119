/- Contracts of the document's answer: Fork, Kill. -/
import Derived.Test.YtaicdjhblbobbaaGreatPDeskB
import Derived.Test.YtaicdjhblbobbaaGreatPWake
namespace Go.Proofs.YtaicdjhblbobbaaGreat
open Go.RowKit Go.Lib

/-- The five numbers of a process's descriptors. -/
def fiveV (G : Nat → Int) : List Value := [.int .i64 (G 0), .int .i64 (G 1), .int .i64 (G 2), .int .i64 (G 3), .int .i64 (G 4)]
theorem DeskB.set5 {w : World} {db : Nat} {d : DK} {ov qv : Value} (h : DeskB w db d ov qv) {p : Nat} (hp : p < 6) (G : Nat → Int) : DeskB (w.setCells db (6 + p * 5) (fiveV G)) db {d with G := fun q i => if q = p then G i else d.G q i} ov qv := by
  obtain ⟨X, h, hc⟩ := h
  have hs := hc.size
  obtain ⟨X', h1, h2, h3⟩ := setCells_at (fiveV G) (6 + p * 5) w X h (by simp [fiveV]; omega)
  have hl : (fiveV G).length = 5 := rfl
  rw [hl] at h3
  refine ⟨X', h1, by omega, fun j hj => ?_, fun q e hq he => ?_, ?_, fun g j q hg hj hq => ?_, ?_, ?_⟩
  · rw [h3, if_neg (by omega)]; exact hc.A j hj
  · rw [h3]
    by_cases e1 : q = p
    · subst e1
      rw [if_pos (by omega), show 6 + q * 5 + e - (6 + q * 5) = e by omega]
      simp only [if_true]
      match e, he with
      | 0, _ | 1, _ | 2, _ | 3, _ | 4, _ => rfl
    · simp only [e1, if_false]
      rw [if_neg (by omega)]; exact hc.G q e hq he
  · rw [h3, if_neg (by omega)]; exact hc.O
  · rw [h3, if_neg (by omega)]; exact hc.C g j q hg hj hq
  · rw [h3, if_neg (by omega)]; exact hc.Q
  · rw [h3, if_neg (by omega)]; exact hc.n
section
variable {w : World} {db : Nat} {P : Nat → Prop} {d : DK} {ov qv : Value} (h : DV w db P d ov qv) (hsm : d.Sm)
include h hsm
set_option maxHeartbeats 4000000 in
set_option maxRecDepth 100000 in
theorem dFork_may (p : Int) (he : d.may p ≠ 0) :
    Calls Tryz.prog 98 #[dkPtr db, .int .i64 p] w fun r w' => r = .returned (.tuple #[.int .i64 0, .int .i64 (d.may p)]) ∧ w' = w := by
  have HM := Hid.mk (dMay_any h hsm p)
  clear h hsm
  unfold dkPtr at *
  generalize d.may p = x at *
  have hx : (x != 0) = true := by simpa using he
  clear he
  go_enter Tryz.func98, Tryz.ntmps98
  go_wp2_with (go_at_call 136; refine HM.out.mono ?_; rintro r w1 ⟨rfl, hw⟩; have hw2 := hw.symm; clear hw; subst hw2)
  go_ret2
  exact ⟨rfl, rfl⟩
set_option maxHeartbeats 8000000 in
set_option maxRecDepth 100000 in
theorem dFork_go {p : Nat} (hp : p < 6) (he : d.may p = 0) :
    Calls Tryz.prog 98 #[dkPtr db, .int .i64 p] w fun r w' => (r = .returned (.tuple #[.int .i64 0, .int .i64 3]) ∧ w' = w ∧ ∀ j, j < 6 → d.A j = true) ∨ ∃ c : Nat, c < 6 ∧ d.A c = false ∧ (∀ j, j < c → d.A j = true) ∧ r = .returned (.tuple #[.int .i64 c, .int .i64 0]) ∧ DV w' db P {d with A := updL d.A c true, G := fun q i => if q = c then d.G p i else d.G q i} ov qv ∧ Kp [db] w w' := by
  have HM := Hid.mk (dMay_any h hsm p)
  rw [he] at HM
  have HV := Hid.mk h
  have hdb := h.k.lt
  have HA := Hid.mk (fun i hi => h.k.cA (i := i) hi)
  have hp' : (p : Int) < 6 := by omega
  clear h hsm he
  unfold dkPtr at *
  go_enter Tryz.func98, Tryz.ntmps98
  go_wp2_with (go_at_call 136; refine HM.out.mono ?_; rintro r w1 ⟨rfl, hw⟩; have hw2 := hw.symm; clear hw; subst hw2)
  go_loop [7] (fun s7 => ∃ n : Nat, s7 = .int .i64 n ∧ n ≤ 6 ∧ Hid (∀ j, j < n → d.A j = true)) (fun s7 => 6 - (intOf s7).toNat)
  case atStart => exact ⟨0, rfl, Nat.zero_le _, fun j hj => absurd hj (Nat.not_lt_zero _)⟩
  case round =>
    obtain ⟨n, rfl, hn, HF⟩ := hrel
    by_cases hlt : n < 6
    · have hlt' : (n : Int) < 6 := by omega
      have hc := HA.out n hlt
      cases hA : d.A n
      · rw [hA] at hc
        have HAN := Hid.mk hA
        have fr := HV.out.k.frozen n
        have hk2 := HV.out.k.setA hlt true
        have g0 : (w.setCell ⟨db, n, none⟩ (.bool true)).cell? ⟨db, 6 + p * 5, none⟩ = some (.int .i64 (d.G p 0)) := hk2.cG hp (e := 0) (by omega)
        have g1 : (w.setCell ⟨db, n, none⟩ (.bool true)).cell? ⟨db, 6 + p * 5 + 1, none⟩ = some (.int .i64 (d.G p 1)) := hk2.cG hp (e := 1) (by omega)
        have g2 : (w.setCell ⟨db, n, none⟩ (.bool true)).cell? ⟨db, 6 + p * 5 + 2, none⟩ = some (.int .i64 (d.G p 2)) := hk2.cG hp (e := 2) (by omega)
        have g3 : (w.setCell ⟨db, n, none⟩ (.bool true)).cell? ⟨db, 6 + p * 5 + 3, none⟩ = some (.int .i64 (d.G p 3)) := hk2.cG hp (e := 3) (by omega)
        have g4 : (w.setCell ⟨db, n, none⟩ (.bool true)).cell? ⟨db, 6 + p * 5 + 4, none⟩ = some (.int .i64 (d.G p 4)) := hk2.cG hp (e := 4) (by omega)
        have s0 : (w.setCell ⟨db, n, none⟩ (.bool true)).cell? ⟨db, 6 + n * 5, none⟩ = some (.int .i64 (d.G n 0)) := hk2.cG hlt (e := 0) (by omega)
        have s1 : (w.setCell ⟨db, n, none⟩ (.bool true)).cell? ⟨db, 6 + n * 5 + 1, none⟩ = some (.int .i64 (d.G n 1)) := hk2.cG hlt (e := 1) (by omega)
        have s2 : (w.setCell ⟨db, n, none⟩ (.bool true)).cell? ⟨db, 6 + n * 5 + 2, none⟩ = some (.int .i64 (d.G n 2)) := hk2.cG hlt (e := 2) (by omega)
        have s3 : (w.setCell ⟨db, n, none⟩ (.bool true)).cell? ⟨db, 6 + n * 5 + 3, none⟩ = some (.int .i64 (d.G n 3)) := hk2.cG hlt (e := 3) (by omega)
        have s4 : (w.setCell ⟨db, n, none⟩ (.bool true)).cell? ⟨db, 6 + n * 5 + 4, none⟩ = some (.int .i64 (d.G n 4)) := hk2.cG hlt (e := 4) (by omega)
        have f0 := hk2.frozen (6 + n * 5)
        have f1 := hk2.frozen (6 + n * 5 + 1)
        have f2 := hk2.frozen (6 + n * 5 + 2)
        have f3 := hk2.frozen (6 + n * 5 + 3)
        have f4 := hk2.frozen (6 + n * 5 + 4)
        have HK2 := Hid.mk hk2
        have HG := Hid.mk g0
        have HKW : Hid (Kp [db] w (w.setCell ⟨db, n, none⟩ (.bool true))) := Kp.setCell (a := ⟨db, n, none⟩) (by simp)
        clear hk2 hA HG
        go_wp2
        generalize w.setCell ⟨db, n, none⟩ (.bool true) = W1 at *
        go_region
        go_wp2
        go_ret2
        refine Or.inr ⟨n, hlt, HAN.out, HF.out, rfl, ?_, ?_⟩
        · have h5 := HK2.out.set5 hlt (d.G p)
          have hkp : Kp [db] w (W1.setCells db (6 + n * 5) (fiveV (d.G p))) := HKW.out.trans (Kp.setCells (by simp) _ _ _)
          have hv := HV.out.turn h5 rfl rfl hkp
          unfold fiveV at hv
          simp only [World.setCells, Nat.add_assoc, Nat.reduceAdd] at hv
          simp only [Nat.add_assoc]
          exact DV.other hv rfl (fun _ _ => rfl) (fun _ _ => rfl)
        · have hkp : Kp [db] w (W1.setCells db (6 + n * 5) (fiveV (d.G p))) := HKW.out.trans (Kp.setCells (by simp) _ _ _)
          have hk2 := hkp.drew
          unfold fiveV at hk2
          simp only [World.setCells, Nat.add_assoc, Nat.reduceAdd] at hk2
          simp only [Nat.add_assoc]
          exact hk2
      · rw [hA] at hc
        have HAN := Hid.mk hA
        clear hA
        go_wp2
        go_round
        case rel =>
          refine ⟨n + 1, by go_num, by omega, fun j hj => ?_⟩
          by_cases e : j = n
          · subst e; exact HAN.out
          · exact HF.out j (by omega)
        case measure => simp [intOf]; omega
    · obtain rfl : n = 6 := by omega
      go_wp2
      go_ret2
      exact Or.inl ⟨rfl, rfl, HF.out⟩
set_option maxHeartbeats 4000000 in
set_option maxRecDepth 100000 in
theorem dKill_may (p : Int) (he : d.may p = 1) :
    Calls Tryz.prog 103 #[dkPtr db, .int .i64 p] w fun r w' => r = .returned (.tuple #[.slice none 0 0, .int .i64 1]) ∧ w' = w := by
  have HM := Hid.mk (dMay_any h hsm p)
  rw [he] at HM
  clear h hsm he
  unfold dkPtr at *
  go_enter Tryz.func103, Tryz.ntmps103
  go_wp2_with (go_at_call 136; refine HM.out.mono ?_; rintro r w1 ⟨rfl, hw⟩; have hw2 := hw.symm; clear hw; subst hw2)
  go_ret2
  exact ⟨rfl, rfl⟩
set_option maxHeartbeats 8000000 in
set_option maxRecDepth 100000 in
theorem dKill_go {p : Nat} (hp : p < 6) (he : d.may p ≠ 1) (hP : ∀ b, w.heap.size ≤ b → P b) {R : World → Ending → World → Prop}
    (hK : ∀ W qv', DV W db P {d with A := updL d.A p false, G := fun q i => if q = p then 0 else d.G q i, C := fun f i q => if q = p then 0 else d.C f i q, Q := d.Q.filter fun a => decide (a.p ≠ (p : Int))} ov qv' → KD db ov w W → Calls Tryz.prog 142 #[dkPtr db] W fun r w' => ∃ o, r = .returned o ∧ R W (.returned (.tuple #[o, .int .i64 0])) w') :
    Calls Tryz.prog 103 #[dkPtr db, .int .i64 p] w fun r w' => ∃ W, KD db ov w W ∧ R W r w' := by
  have HM := Hid.mk (dMay_any h hsm p)
  have HK := Hid.mk hK
  have HV := Hid.mk h
  have HPP := Hid.mk hP
  have hq7 := hsm.q
  have hdb := h.k.lt
  obtain ⟨qa, qc, rfl⟩ := own_form h.q
  have HCQ := Hid.mk (fun (W : World) (hW : Below w.heap.size w W) => (h.below hW).k.cQ)
  have HR := Hid.mk (fun (W : World) (hW : Below w.heap.size w W) => (h.below hW).q)
  have hp' : (p : Int) < 6 := by omega
  generalize d.may p = x at *
  have hx : (x == 1) = false := by simpa using he
  clear h hsm hK he hP
  unfold dkPtr at *
  go_enter Tryz.func103, Tryz.ntmps103
  go_wp2_with (go_at_call 136; refine HM.out.mono ?_; rintro r w1 ⟨rfl, hw⟩; have hw2 := hw.symm; clear hw; subst hw2)
  go_loopw [7, 8] (fun s7 s8 wr => ∃ n : Nat, s8 = .int .i64 n ∧ n ≤ d.Q.length ∧ Hid (wr.ownsRow w.heap.size 218 7 s7 ((d.Q.take n).filter fun a => decide (a.p ≠ (p : Int))).length (flatA ((d.Q.take n).filter fun a => decide (a.p ≠ (p : Int))))) ∧ Hid (Below w.heap.size w wr)) (fun _ s8 _ => d.Q.length - (intOf s8).toNat)
  case atStart => exact ⟨0, rfl, Nat.zero_le _, World.ownsRow_nil _ _ _ _, Below.refl _ _⟩
  case round =>
    obtain ⟨n, rfl, hn, HO, HB⟩ := hrel
    have hsz : w.heap.size ≤ wr.heap.size := HB.out.size
    have cq := HCQ.out wr HB.out
    by_cases hlt : n < d.Q.length
    · have hlt' : (n : Int) < (d.Q.length : Int) := by omega
      obtain ⟨x, hx⟩ : ∃ x, d.Q[n]? = some x := ⟨_, List.getElem?_eq_getElem hlt⟩
      obtain ⟨g, rfl, hg, hat⟩ := askAtD (HR.out wr HB.out) hx
      obtain ⟨x0, x1, x2, x3, x4, x5, x6⟩ := hat
      have HT : Hid ((d.Q.take (n + 1)).filter (fun a => decide (a.p ≠ (p : Int))) = (d.Q.take n).filter (fun a => decide (a.p ≠ (p : Int))) ++ (if x.p = (p : Int) then [] else [x])) := by
        show _ = _
        rw [List.take_add_one, hx, List.filter_append]
        congr 1
        by_cases e : x.p = (p : Int) <;> simp [e]
      have hll : ((d.Q.take n).filter fun a => decide (a.p ≠ (p : Int))).length ≤ 7 := by
        have h1 := List.length_filter_le (fun a : Ask => decide (a.p ≠ (p : Int))) (d.Q.take n)
        have h2 : (d.Q.take n).length ≤ d.Q.length := List.length_take_le' _ _
        omega
      generalize (d.Q.take n).filter (fun a => decide (a.p ≠ (p : Int))) = LL at *
      obtain ⟨ua, uc, rfl⟩ := own_form HO.out
      clear hx
      by_cases hxe : x.p = (p : Int)
      · rw [hxe] at x0
        have HS : Hid ((d.Q.take (n + 1)).filter (fun a => decide (a.p ≠ (p : Int))) = LL) := by show _ = _; rw [HT.out, if_pos hxe, List.append_nil]
        clear hxe
        go_wp2
        go_roundw
        case rel => exact ⟨n + 1, by go_num, by omega, by rw [HS.out]; exact HO.out, HB.out⟩
        case measure => simp [intOf]; omega
      · have HS : Hid ((d.Q.take (n + 1)).filter (fun a => decide (a.p ≠ (p : Int))) = LL ++ [x]) := by show _ = _; rw [HT.out, if_neg hxe]
        go_wp2_with (at_builtin; refine wpList_snocL rfl _ _ _ rfl Tryz.underlying169 Tryz.infoAskD rfl (by decide) (by decide) rfl HO.out (by omega) (by omega) (cs := #[.int .i64 x.p, .int .i64 x.k, .int .i64 x.file, .bool x.whole, .int .i64 x.o, .int .i64 x.f, .int .i64 x.t]) rfl (by simp) rfl (by simp [Value.oneCell']) ?_; intro v2 w2 ho2 hb2 hz2 hold2 _; have HO2 := Hid.mk ho2; have HB2 := Hid.mk hb2; clear ho2 hb2 hold2)
        go_roundw
        case rel =>
          refine ⟨n + 1, by go_num, by omega, ?_, HB.out.trans HB2.out⟩
          rw [HS.out, List.length_append, flatA_app]
          exact HO2.out
        case measure => simp [intOf]; omega
    · obtain rfl : n = d.Q.length := by omega
      have HO1 := HO.out
      rw [List.take_of_length_le (Nat.le_refl _)] at HO1
      have HO2 := Hid.mk HO1
      clear HO1 HO hlt
      obtain ⟨ua, uc, rfl⟩ := own_form HO2.out
      have fq := (HV.out.below HB.out).k.frozen 1189
      have hdbr : db < wr.heap.size := by omega
      have HVA : Hid (DV (wr.setCell ⟨db, 1189, none⟩ (.slice ua (d.Q.filter fun a => decide (a.p ≠ (p : Int))).length uc)) db P {d with Q := d.Q.filter fun a => decide (a.p ≠ (p : Int))} ov (.slice ua (d.Q.filter fun a => decide (a.p ≠ (p : Int))).length uc)) := by
        have hv := HV.out.below HB.out
        exact DV.make (w := wr) hv.k (hv.k.setQ _ _) hv.o (own_mono HO2.out (Nat.zero_le _)) (fun b hne => Below.heap_setCell _ _ _ _ hne) hv.pk hv.po (fun b e => HPP.out b (HO2.out.lt b e).1)
      generalize (d.Q.filter fun a => decide (a.p ≠ (p : Int))) = FQ at *
      have caA := HVA.out.k.cA hp
      have faA := HVA.out.k.frozen p
      have HKA := Hid.mk (HVA.out.k.setA hp false)
      have cqr := cq
      have HKD0 : Hid (KD db ov w (wr.setCell ⟨db, 1189, none⟩ (.slice ua FQ.length uc))) := (KD.of_below HB.out).cell (a := ⟨db, 1189, none⟩) (Or.inl rfl) _
      have HKP0 : Hid (Kp [db] (wr.setCell ⟨db, 1189, none⟩ (.slice ua FQ.length uc)) ((wr.setCell ⟨db, 1189, none⟩ (.slice ua FQ.length uc)).setCell ⟨db, p, none⟩ (.bool false))) := Kp.setCell (a := ⟨db, p, none⟩) (by simp)
      go_upto_region 11 with fail
      obtain ⟨W0, hW0⟩ : ∃ W0, W0 = wr.setCell ⟨db, 1189, none⟩ (.slice ua FQ.length uc) := ⟨_, rfl⟩
      rw [← hW0] at caA faA HVA HKA HKD0 HKP0 ⊢
      clear hW0 cq cqr fq
      go_wp2
      go_loopw [9] (fun s9 wq => ∃ i : Nat, s9 = .int .i64 i ∧ i ≤ 5 ∧ Hid (DeskB wq db {d with Q := FQ, A := updL d.A p false, G := fun q c => if q = p ∧ c < i then 0 else d.G q c} ov (.slice ua FQ.length uc)) ∧ Hid (Kp [db] W0 wq)) (fun s9 _ => 5 - (intOf s9).toNat)
      case atStart =>
        refine ⟨0, rfl, Nat.zero_le _, ?_, HKP0.out⟩
        have e : (fun q c => if q = p ∧ c < 0 then (0 : Int) else d.G q c) = d.G := by funext q c; rw [if_neg (by omega)]
        show DeskB _ db {d with Q := FQ, A := updL d.A p false, G := fun q c => if q = p ∧ c < 0 then (0 : Int) else d.G q c} ov _
        rw [e]; exact HKA.out
      case round =>
        obtain ⟨i, rfl, hi, HD, HP⟩ := hrel
        by_cases hi5 : i < 5
        · have hi5' : (i : Int) < 5 := by omega
          have cg := HD.out.cG hp hi5
          have fg := HD.out.frozen (6 + p * 5 + i)
          go_wp2
          go_roundw
          case rel =>
            refine ⟨i + 1, by go_num, by omega, ?_, HP.out.trans (Kp.setCell (a := ⟨db, _, none⟩) (by simp))⟩
            have hx := HD.out.setG hp hi5 0
            have e : putG (fun q c => if q = p ∧ c < i then (0 : Int) else d.G q c) p i 0 = fun q c => if q = p ∧ c < i + 1 then (0 : Int) else d.G q c := by
              funext q c
              unfold putG
              simp only
              by_cases h1 : q = p ∧ c = i
              · rw [if_pos h1, if_pos (by omega)]
              · rw [if_neg h1]
                by_cases h2 : q = p ∧ c < i
                · rw [if_pos h2, if_pos (by omega)]
                · rw [if_neg h2, if_neg (by omega)]
            simp only at hx
            rw [e] at hx
            exact hx
          case measure => simp [intOf]; omega
        · have HI5 : Hid (i = 5) := by show _ = _; omega
          have hi5' : ¬ ((i : Int) < 5) := by omega
          have HD5 := HD.out
          rw [HI5.out] at HD5
          have HDD := Hid.mk HD5
          clear HD5 HD hi
          go_wp2
          go_loopw [10] (fun s10 wq => ∃ n : Nat, s10 = .int .i64 n ∧ n ≤ 3 ∧ Hid (DeskB wq db {d with Q := FQ, A := updL d.A p false, G := fun q c => if q = p ∧ c < 5 then 0 else d.G q c, C := fun f j q => if q = p ∧ f < n then 0 else d.C f j q} ov (.slice ua FQ.length uc)) ∧ Hid (Kp [db] W0 wq)) (fun s10 _ => 3 - (intOf s10).toNat)
          case atStart =>
            refine ⟨0, rfl, Nat.zero_le _, ?_, HP.out⟩
            have e : (fun f j q => if q = p ∧ f < 0 then (0 : Int) else d.C f j q) = d.C := by funext f j q; rw [if_neg (by omega)]
            show DeskB _ db {d with Q := FQ, A := updL d.A p false, G := fun q c => if q = p ∧ c < 5 then (0 : Int) else d.G q c, C := fun f j q => if q = p ∧ f < 0 then (0 : Int) else d.C f j q} ov _
            rw [e]; exact HDD.out
          case round =>
            clear HDD HP
            obtain ⟨n, rfl, hn, HD, HP⟩ := hrel
            by_cases hn3 : n < 3
            · have hn3' : (n : Int) < 3 := by omega
              have HDR := Hid.mk (dDrop_any HD.out hp hn3)
              unfold dkPtr at HDR
              go_wp2_with (go_at_call 141; refine HDR.out.mono ?_; rintro r w2 ⟨rfl, hk2, hkp2⟩; have HK2 := Hid.mk hk2; have HP2 := Hid.mk hkp2; clear hk2 hkp2)
              go_roundw
              case rel =>
                refine ⟨n + 1, by go_num, by omega, ?_, HP.out.trans HP2.out⟩
                have hx := HK2.out
                have e : dropC (fun f j q => if q = p ∧ f < n then (0 : Int) else d.C f j q) p n = fun f j q => if q = p ∧ f < n + 1 then (0 : Int) else d.C f j q := by
                  funext f j q
                  unfold dropC
                  simp only
                  by_cases h1 : f = n ∧ q = p
                  · rw [if_pos h1, if_pos (by omega)]
                  · rw [if_neg h1]
                    by_cases h2 : q = p ∧ f < n
                    · rw [if_pos h2, if_pos (by omega)]
                    · rw [if_neg h2, if_neg (by omega)]
                rw [e] at hx
                exact hx
              case measure => simp [intOf]; omega
            · obtain rfl : n = 3 := by omega
              have HVF : Hid (DV wr db P {d with A := updL d.A p false, G := fun q i => if q = p then 0 else d.G q i, C := fun f i q => if q = p then 0 else d.C f i q, Q := FQ} ov (.slice ua FQ.length uc)) := by
                refine HVA.out.turn ?_ rfl rfl HP.out
                obtain ⟨X, h1, h2⟩ := HD.out
                refine ⟨X, h1, h2.size, h2.A, fun q c hq hc => ?_, h2.O, fun f j q hf hj hq => ?_, h2.Q, h2.n⟩
                · rw [h2.G q c hq hc]
                  simp only
                  by_cases e : q = p
                  · rw [if_pos ⟨e, hc⟩, if_pos e]
                  · rw [if_neg (fun h => e h.1), if_neg e]
                · rw [h2.C f j q hf hj hq]
                  simp only
                  by_cases e : q = p
                  · rw [if_pos ⟨e, hf⟩, if_pos e]
                  · rw [if_neg (fun h => e h.1), if_neg e]
              have HSE := Hid.mk (HK.out wr _ HVF.out (HKD0.out.trans (KD.of_kp HP.out)))
              have HKE : Hid (KD db ov w wr) := HKD0.out.trans (KD.of_kp HP.out)
              go_wp2_with (go_at_call 142; refine HSE.out.mono ?_; rintro r w3 ⟨o3, rfl, hr3⟩; have HR3 := Hid.mk hr3; clear hr3)
              go_ret2
              exact ⟨wr, HKE.out, HR3.out⟩
end
end Go.Proofs.YtaicdjhblbobbaaGreat
