/- Contracts of the document's answer, on: who is stuck. -/
import Derived.Test.YtaicdjhblbobbaaGreatPDeskN
import Derived.Test.YtaicdjhblbobbaaGreatPPureB
import Derived.Deep.LoopGhost
import Derived.Test.YtaicdjhblbobbaaGreatPDeskA
import Derived.Test.YtaicdjhblbobbaaGreatPDeskR
import Derived.BigQuiet
import Derived.Deep.RegionWith
import Derived.Test.YtaicdjhblbobbaaGreatPDeskY
import Derived.Test.YtaicdjhblbobbaaGreatPKOuter
import Derived.Test.YtaicdjhblbobbaaGreatPWake
namespace Go.Proofs.YtaicdjhblbobbaaGreat
open Go.RowKit Go.Lib

/-- What is in the way of a lock. -/
theorem dWay_any {w : World} {db : Nat} {P : Nat → Prop} {d : DK} {ov qv : Value} (h : DV w db P d ov qv) (hs : d.Sm) (a : Ask) (hf : a.file < 3) (hr : a.whole = false → 0 ≤ a.f ∧ a.f ≤ a.t ∧ a.t ≤ 63) {n0 : Nat} (hn0 : n0 ≤ d.Q.length) :
    Calls Tryz.prog 169 #[dkPtr db, dAskV a, .int .i64 n0] w fun e w' => ∃ v' us, e = .returned v' ∧ WaysB w.heap.size w' v' (d.way a (d.Q.take n0)) us ∧ Below w.heap.size w w' := by
  cases hw : a.whole with
  | false => exact dWay_range h hs a hw hf (hr hw) hn0
  | true => exact dWay_whole h hs a hw hn0
/-- The two arrays that Stuck works on. -/
structure SV (w wr : World) (c : Nat → Bool) : Prop where
  b : Below w.heap.size w wr
  r : Six wr w.heap.size fun _ => false
  s : Six wr (w.heap.size + 1) c
theorem SV.start (w : World) : SV w ((w.alloc (.cells (bs6 fun _ => false) 155)).alloc (.cells (bs6 fun _ => false) 155)) fun _ => false := by
  have h2 := heap_alloc_new w (.cells (bs6 fun _ => false) 155)
  have h3 := heap_alloc_new (w.alloc (.cells (bs6 fun _ => false) 155)) (.cells (bs6 fun _ => false) 155)
  rw [World.size_alloc] at h3
  exact ⟨((Below.refl _ _).alloc (Nat.le_refl _) _).alloc (by simp) _, (Below.heap_alloc _ _ _ (by simp)).trans h2, h3⟩
theorem SV.lt {w wr : World} {c : Nat → Bool} (h : SV w wr c) : w.heap.size + 1 < wr.heap.size := (Array.getElem?_eq_some_iff.1 h.s).1
theorem SV.below {w wr w' : World} {c : Nat → Bool} (h : SV w wr c) (hb : Below wr.heap.size wr w') : SV w w' c :=
  ⟨h.b.trans (hb.mono h.b.size), h.r.of_block (hb.block _ (by have := h.lt; omega)), h.s.of_block (hb.block _ h.lt)⟩
theorem SV.set {w wr : World} {c : Nat → Bool} (h : SV w wr c) {q : Nat} (hq : q < 6) (v : Bool) : SV w (wr.setCell ⟨w.heap.size + 1, q, none⟩ (.bool v)) fun j => if j = q then v else c j :=
  ⟨h.b.setCell (by simp) _, h.r.of_block (Below.heap_setCell _ _ _ _ (by simp)), h.s.set hq v⟩
theorem SV.congr {w wr : World} {c c' : Nat → Bool} (h : SV w wr c) (hc : ∀ q, q < 6 → c q = c' q) : SV w wr c' := by
  refine ⟨h.b, h.r, ?_⟩
  have := h.s
  unfold Six bs6 at *
  rw [← hc 0 (by omega), ← hc 1 (by omega), ← hc 2 (by omega), ← hc 3 (by omega), ← hc 4 (by omega), ← hc 5 (by omega)]
  exact this
theorem InS.congr {s : DS} {c c' : Nat → Bool} (h : InS s c) (hc : ∀ q, q < 6 → c q = c' q) : InS s c' :=
  ⟨fun p hp hs => by rw [← hc p hp]; exact h.sup p hp hs, fun p hp hs => h.wait p hp (by rw [hc p hp]; exact hs)⟩

set_option maxHeartbeats 16000000 in
set_option maxRecDepth 100000 in
theorem dStuck_any {w : World} {db : Nat} {P : Nat → Prop} {d : DK} {ov qv : Value} {s : DS} (h : DV w db P d ov qv) (hs : d.Sm) (hsim : Sim s d) (hbas : s.Bas) :
    Calls Tryz.prog 172 #[dkPtr db] w fun e w' => e = .returned (.agg (bs6 fun p => decide ((p : Int) ∈ s.stuck))) ∧ Below w.heap.size w w' := by
  have HWY := Hid.mk (fun (W : World) (hW : Below w.heap.size w W) (i : Nat) (x : Ask) (hx : d.Q[i]? = some x) => by
    have hq := hs.qa x (List.mem_of_getElem? hx)
    exact dWay_any (h.below hW) hs x hq.2.1 hq.2.2.2 (n0 := i) (Nat.le_of_lt (List.getElem?_eq_some_iff.1 hx).1))
  have HQ := Hid.mk (fun (W : World) (hW : Below w.heap.size w W) => (h.below hW).k.cQ)
  have HR := Hid.mk (fun (W : World) (hW : Below w.heap.size w W) => (h.below hW).q)
  have HWM := Hid.mk (fun (i : Nat) (x : Ask) (hx : d.Q[i]? = some x) (g : List Int) (hg : g ∈ d.way x (d.Q.take i)) => DK.way_mem hbas (d := d) (a := x) (l := d.Q.take i) (fun b hb => by rw [← hsim.Q]; exact List.mem_of_mem_take hb) hg)
  have HQP := Hid.mk (fun (x : Ask) (hx : x ∈ d.Q) => (mem_ps6.1 (hs.qa x hx).1))
  have HST : Hid (InS s fun p => d.Q.any fun a => decide (a.p = (p : Int))) := by have := InS.start s; rw [← hsim.Q] at this; exact this
  have HDR : Hid (∀ (c : Nat → Bool) (i : Nat) (a : Ask), InS s c → d.Q[i]? = some a → d.stays c a (d.Q.take i) = false → InS s fun j => if j = a.p.toNat then false else c j) := fun c i a hc hi hn => by
    rw [hsim.Q] at hi hn
    exact hc.drop hbas hsim hi hn
  have HDN : Hid (∀ c : Nat → Bool, InS s c → (∀ (i : Nat) (a : Ask), d.Q[i]? = some a → c a.p.toNat = true → d.stays c a (d.Q.take i) = true) → ∀ p, p < 6 → c p = decide ((p : Int) ∈ s.stuck)) := fun c hc hall p hp => by
    rw [hsim.Q] at hall
    exact hc.done hbas hsim hall hp
  have HSD : Hid (∀ c a l, d.stays c a l = (d.way a l).any fun g => g.all fun q => c q.toNat) := fun _ _ _ => rfl
  have HLN : Hid (∀ (x : Ask) (n : Nat), (d.way x (d.Q.take n)).length ≤ 10000020) := fun x n => by
    have h1 := wayQ_len x (d.Q.take n)
    have h2 : (d.Q.take n).length ≤ d.Q.length := List.length_take_le' _ _
    have h3 := hs.q
    have h4 := hs.o
    cases hw : x.whole with
    | false => rw [d.way_range _ hw, List.length_append]; have := d.wayH_len x 6; omega
    | true => rw [d.way_whole _ hw, List.length_append]; have := d.wayW_len x d.O.length; omega
  have HGL0 : Hid (∀ (x : Ask) (l : List Ask) (g : List Int), g ∈ d.way x l → g.length ≤ 1000) := fun x l g hg => by
    unfold DK.way at hg
    rcases List.mem_append.1 hg with hg | hg
    · obtain ⟨b, _, rfl⟩ := List.mem_map.1 hg
      simp
    · split at hg
      · obtain ⟨o, _, rfl⟩ := List.mem_map.1 hg
        unfold DK.sharers
        exact Nat.le_trans (List.length_filter_le _ _) (by decide)
      · obtain ⟨r, _, rfl⟩ := List.mem_map.1 hg
        simp
  have hdw := h.k.lt
  have hq7 := hs.q
  obtain ⟨qa, qc, rfl⟩ := own_form h.q
  have HSV := Hid.mk (SV.start w)
  unfold bs6 at HSV
  clear h hs hsim hbas
  unfold dkPtr at *
  generalize hl0 : d.Q = l at *
  clear hl0
  generalize d.stays = st at *
  generalize d.way = wy at *
  go_enter Tryz.func172, Tryz.ntmps172
  go_wp2
  go_loopw [4] (fun s4 wr => ∃ n : Nat, s4 = .int .i64 n ∧ n ≤ l.length ∧ Hid (SV w wr fun p => (l.take n).any fun a => decide (a.p = (p : Int)))) (fun s4 _ => l.length - (intOf s4).toNat)
  case atStart => exact ⟨0, rfl, Nat.zero_le _, HSV.out⟩
  case round =>
    obtain ⟨n, rfl, hn, HS⟩ := hrel
    have hcq := HQ.out wr HS.out.b
    have hsz := HS.out.lt
    by_cases hlt : n < l.length
    · have hlt' : (n : Int) < (l.length : Int) := by omega
      obtain ⟨x, hx⟩ : ∃ x, l[n]? = some x := ⟨_, List.getElem?_eq_getElem hlt⟩
      obtain ⟨g, rfl, hg, hat⟩ := askAtD (HR.out wr HS.out.b) hx
      have x0 := hat.p
      have hp6 := HQP.out x (List.mem_of_getElem? hx)
      obtain ⟨p, hpe⟩ : ∃ p : Nat, x.p = p := ⟨x.p.toNat, by omega⟩
      have hp : p < 6 := by omega
      have hp' : (p : Int) < 6 := by omega
      rw [hpe] at x0
      have hc := HS.out.s.cell hp
      have hf := HS.out.s.frozen p
      have HX := Hid.mk hx
      have HPE := Hid.mk hpe
      clear hat hx hpe hp6
      generalize ((l.take n).any fun a => decide (a.p = (p : Int))) = cv at *
      go_wp2
      go_roundw
      case rel =>
        refine ⟨n + 1, by go_num, by omega, (HS.out.set hp true).congr fun q hq => ?_⟩
        rw [List.take_add_one, HX.out, List.any_append]
        by_cases e : q = p
        · rw [if_pos e]
          simp [HPE.out, e]
        · rw [if_neg e]
          have e2 : ¬ ((p : Int) = (q : Int)) := by omega
          simp [HPE.out, e2]
      case measure => simp [intOf]; omega
    · obtain rfl : n = l.length := by omega
      have HS2 := HS.out
      rw [List.take_of_length_le (Nat.le_refl _)] at HS2
      have HS3 := Hid.mk HS2
      clear HS2 HS
      generalize hc0 : (fun p : Nat => l.any fun a => decide (a.p = (p : Int))) = c0 at *
      clear hc0
      go_wp2
      go_loopg [5, 6, 7, 8, 9, 10, 11, 12] (cnt6 c0 + 1) (fun gm s5 _ _ _ _ _ _ _ wr => ∃ (c : Nat → Bool) (m : Bool), s5 = .bool m ∧ gm = cnt6 c + (if m then 1 else 0) ∧ Hid (SV w wr c) ∧ Hid (InS s c) ∧ Hid (m = false → ∀ (i : Nat) (a : Ask), l[i]? = some a → c a.p.toNat = true → st c a (l.take i) = true))
      case atStart => exact ⟨c0, true, rfl, rfl, HS3.out, HST.out, fun e => by cases e⟩
      case round =>
        clear HS3 HST hlt hn hcq hsz
        obtain ⟨c, m, rfl, rfl, HS, HI, HA⟩ := hrel
        cases m
        · have HF := Hid.mk (HDN.out c HI.out (HA.out rfl))
          have hsx := HS.out.s
          have hrx := HS.out.r
          go_wp2_with (first
            | refine wpList_load_six rfl _ rfl _ rfl HS.out.s ?_
            | (refine wpList_store_six rfl _ _ rfl _ _ rfl rfl HS.out.r ?_; intro hsix; have HSIX := Hid.mk hsix; clear hsix))
          refine bodyPost_ret (v := .agg (bs6 c)) (results_box Tryz.results172 rfl (run_loadVar_mid (P := Tryz.prog) _ w.heap.size 0 155 (sixV c) _ HSIX.out.range Tryz.und6 rfl Tryz.info6)) rfl ⟨?_, ?_⟩
          · unfold bs6
            rw [HF.out 0 (by omega), HF.out 1 (by omega), HF.out 2 (by omega), HF.out 3 (by omega), HF.out 4 (by omega), HF.out 5 (by omega)]
          · have hb := HS.out.b
            unfold sixV
            simp only [World.setCells]
            exact (((((hb.setCell (by simp) _).setCell (by simp) _).setCell (by simp) _).setCell (by simp) _).setCell (by simp) _).setCell (by simp) _
        · clear HA
          go_wp2
          go_loopw [5, 6, 7, 8, 9, 10, 11, 12] (fun s5 s6 _ _ _ _ _ _ wr => ∃ (n : Nat) (c2 : Nat → Bool) (m : Bool), s5 = .bool m ∧ s6 = .int .i64 n ∧ n ≤ l.length ∧ Hid (SV w wr c2) ∧ Hid (InS s c2) ∧ Hid ((m = false ∧ c2 = c ∧ ∀ (i : Nat) (a : Ask), i < n → l[i]? = some a → c a.p.toNat = true → st c a (l.take i) = true) ∨ (m = true ∧ cnt6 c2 < cnt6 c))) (fun _ s6 _ _ _ _ _ _ _ => l.length - (intOf s6).toNat)
          case atStart => exact ⟨0, c, false, rfl, rfl, Nat.zero_le _, HS.out, HI.out, Or.inl ⟨rfl, rfl, fun i a hi => absurd hi (Nat.not_lt_zero _)⟩⟩
          case round =>
            clear HS HI
            obtain ⟨n, c2, m, rfl, rfl, hn, HS, HI, HD⟩ := hrel
            have hcq := HQ.out wr HS.out.b
            have hsz := HS.out.lt
            by_cases hlt : n < l.length
            · have hlt' : (n : Int) < (l.length : Int) := by omega
              obtain ⟨x, hx⟩ : ∃ x, l[n]? = some x := ⟨_, List.getElem?_eq_getElem hlt⟩
              obtain ⟨g, rfl, hg, hat⟩ := askAtD (HR.out wr HS.out.b) hx
              obtain ⟨x0, x1, x2, x3, x4, x5, x6⟩ := hat
              have hp6 := HQP.out x (List.mem_of_getElem? hx)
              obtain ⟨p, hpe⟩ : ∃ p : Nat, x.p = p := ⟨x.p.toNat, by omega⟩
              have hp : p < 6 := by omega
              have hp' : (p : Int) < 6 := by omega
              have hcp := HS.out.s.cell hp
              have HX := Hid.mk hx
              have HPE := Hid.mk hpe
              have HCW := Hid.mk (HWY.out wr HS.out.b n x hx)
              have HGM := Hid.mk (HWM.out n x hx)
              have HPT : Hid (x.p.toNat = p) := by show _ = _; omega
              rw [hpe] at x0
              unfold dAskV at HCW
              rw [hpe] at HCW
              clear hx hpe hp6
              cases hcv : c2 p
              · rw [hcv] at hcp
                have HCV := Hid.mk hcv
                clear hcv
                go_wp2
                go_roundw
                case rel =>
                  refine ⟨n + 1, c2, m, rfl, by go_num, by omega, HS.out, HI.out, ?_⟩
                  rcases HD.out with ⟨h1, h2, h3⟩ | h1
                  · refine Or.inl ⟨h1, h2, fun i a hi ha hc => ?_⟩
                    by_cases e : i = n
                    · subst e
                      rw [HX.out] at ha
                      cases ha
                      rw [HPT.out, ← h2, HCV.out] at hc
                      cases hc
                    · exact h3 i a (by omega) ha hc
                  · exact Or.inr h1
                case measure => simp [intOf]; omega
              · rw [hcv] at hcp
                have HCV := Hid.mk hcv
                clear hcv
                go_wp2_with (go_at_call 169; refine HCW.out.mono ?_; rintro e w1 ⟨v1, us, rfl, hw1, hb1⟩; obtain ⟨ua, uc, rfl⟩ := own_form hw1.own; have HU := Hid.mk hw1; have HB1 := Hid.mk hb1; clear hw1 hb1)
                have HS1 := Hid.mk (HS.out.below HB1.out)
                have HSD1 := Hid.mk (HSD.out c2 x (l.take n))
                have hll : (wy x (l.take n)).length ≤ 10000020 := HLN.out x n
                have HGL : Hid (∀ g : List Int, g ∈ wy x (l.take n) → g.length ≤ 1000) := HGL0.out x (l.take n)
                generalize wy x (l.take n) = L at *
                go_loop [9, 10, 11, 12] (fun s9 s10 _ _ => ∃ k : Nat, s10 = .int .i64 k ∧ k ≤ L.length ∧ s9 = .bool ((L.take k).any fun g => g.all fun q => c2 q.toNat)) (fun _ s10 _ _ => L.length - (intOf s10).toNat)
                case atStart => exact ⟨0, rfl, Nat.zero_le _, rfl⟩
                case round =>
                  obtain ⟨k, rfl, hk, rfl⟩ := hrel
                  by_cases hkl : k < L.length
                  · have hkl' : (k : Int) < (L.length : Int) := by omega
                    obtain ⟨ug, rfl, _, hug, huc, hcell⟩ := own_some HU.out.own (by omega)
                    obtain ⟨gl, hgl⟩ : ∃ gl, L[k]? = some gl := ⟨_, List.getElem?_eq_getElem hkl⟩
                    obtain ⟨tv, htv⟩ : ∃ tv, us[k]? = some tv := ⟨_, List.getElem?_eq_getElem (by rw [HU.out.len]; exact hkl)⟩
                    have hrow := HU.out.each k gl tv hgl htv
                    obtain ⟨ta, tc, rfl⟩ := own_form hrow
                    have ck := (hcell k (by omega)).trans htv
                    have HROW := Hid.mk hrow
                    have HG6 : Hid (∀ q, q ∈ gl → q ∈ ps6) := HGM.out gl (List.mem_of_getElem? hgl)
                    have hgll : gl.length ≤ 1000 := HGL.out gl (List.mem_of_getElem? hgl)
                    have HTK : Hid (((L.take (k + 1)).any fun g => g.all fun q => c2 q.toNat) = (((L.take k).any fun g => g.all fun q => c2 q.toNat) || (gl.all fun q => c2 q.toNat))) := by show _ = _; rw [List.take_add_one, hgl, List.any_append]; simp
                    generalize ((L.take k).any fun g => g.all fun q => c2 q.toNat) = sv at *
                    clear hcell hgl htv hrow
                    go_wp2
                    go_loop [11, 12] (fun s11 s12 => ∃ j : Nat, s12 = .int .i64 j ∧ j ≤ gl.length ∧ s11 = .bool ((gl.take j).all fun q => c2 q.toNat)) (fun _ s12 => gl.length - (intOf s12).toNat)
                    case atStart => exact ⟨0, rfl, Nat.zero_le _, rfl⟩
                    case round =>
                      obtain ⟨j, rfl, hj, rfl⟩ := hrel
                      by_cases hjl : j < gl.length
                      · have hjl' : (j : Int) < (gl.length : Int) := by omega
                        obtain ⟨tg, rfl, _, htg, htc, htcell⟩ := own_some HROW.out (by omega)
                        obtain ⟨q, hq⟩ : ∃ q, gl[j]? = some q := ⟨_, List.getElem?_eq_getElem hjl⟩
                        have cj := (htcell j (by omega)).trans (ints_get hq)
                        have hq6 := mem_ps6.1 (HG6.out q (List.mem_of_getElem? hq))
                        obtain ⟨qn, hqn⟩ : ∃ qn : Nat, q = qn := ⟨q.toNat, by omega⟩
                        subst hqn
                        have hqn6 : qn < 6 := by omega
                        have hqn6' : (qn : Int) < 6 := by omega
                        have cq := HS1.out.s.cell hqn6
                        have HTJ : Hid (((gl.take (j + 1)).all fun q => c2 q.toNat) = (((gl.take j).all fun q => c2 q.toNat) && c2 qn)) := by show _ = _; rw [List.take_add_one, hq, List.all_append]; simp
                        generalize ((gl.take j).all fun q => c2 q.toNat) = av at *
                        clear htcell hq hq6
                        generalize c2 qn = cqv at *
                        cases av
                        · go_wp2
                          go_round
                          case rel => exact ⟨j + 1, by go_num, by omega, by rw [HTJ.out]; rfl⟩
                          case measure => simp [intOf]; omega
                        · go_wp2
                          go_round
                          case rel => exact ⟨j + 1, by go_num, by omega, by rw [HTJ.out]; rfl⟩
                          case measure => simp [intOf]; omega
                      · obtain rfl : j = gl.length := by omega
                        rw [List.take_of_length_le (Nat.le_refl _)]
                        generalize (gl.all fun q => c2 q.toNat) = gv at *
                        cases sv
                        · go_wp2
                          go_round
                          case rel => exact ⟨k + 1, by go_num, by omega, by rw [HTK.out]; rfl⟩
                          case measure => simp [intOf]; omega
                        · go_wp2
                          go_round
                          case rel => exact ⟨k + 1, by go_num, by omega, by rw [HTK.out]; rfl⟩
                          case measure => simp [intOf]; omega
                  · obtain rfl : k = L.length := by omega
                    rw [List.take_of_length_le (Nat.le_refl _)]
                    rw [← HSD1.out]
                    have hsz1 := HS1.out.lt
                    cases hsv : st c2 x (l.take n)
                    · have HN := Hid.mk (HDR.out c2 n x HI.out HX.out hsv)
                      have hc1 := HS1.out.s.cell hp
                      have hf1 := HS1.out.s.frozen p
                      rw [HCV.out] at hc1
                      clear hsv
                      go_wp2
                      go_roundw
                      case rel =>
                        refine ⟨n + 1, fun j => if j = p then false else c2 j, true, rfl, by go_num, by omega, HS1.out.set hp false, ?_, Or.inr ⟨rfl, ?_⟩⟩
                        · have hh := HN.out
                          rw [HPT.out] at hh
                          exact hh
                        · have hlt := cnt6_drop hp HCV.out
                          rcases HD.out with ⟨_, h2, _⟩ | ⟨_, h2⟩
                          · rw [← h2]; exact hlt
                          · omega
                      case measure => simp [intOf]; omega
                    · have HSV2 := Hid.mk hsv
                      clear hsv
                      go_wp2
                      go_roundw
                      case rel =>
                        refine ⟨n + 1, c2, m, rfl, by go_num, by omega, HS1.out, HI.out, ?_⟩
                        rcases HD.out with ⟨h1, h2, h3⟩ | h1
                        · refine Or.inl ⟨h1, h2, fun i a hi ha hc => ?_⟩
                          by_cases e : i = n
                          · subst e
                            rw [HX.out] at ha
                            cases ha
                            rw [← h2]; exact HSV2.out
                          · exact h3 i a (by omega) ha hc
                        · exact Or.inr h1
                      case measure => simp [intOf]; omega
            · obtain rfl : n = l.length := by omega
              go_wp2
              go_roundg (cnt6 c2 + (if m then 1 else 0))
              case measure =>
                rcases HD.out with ⟨rfl, rfl, _⟩ | ⟨rfl, h2⟩
                · simp
                · simp only [if_true]; omega
              case rel =>
                refine ⟨c2, m, rfl, rfl, HS.out, HI.out, fun hm i a ha hc => ?_⟩
                rcases HD.out with ⟨_, rfl, h3⟩ | ⟨h1, _⟩
                · exact h3 i a (List.getElem?_eq_some_iff.1 ha).1 ha hc
                · rw [h1] at hm; cases hm
end Go.Proofs.YtaicdjhblbobbaaGreat

/- Contracts of the document's answer, on: one has its lock. -/
namespace Go.Proofs.YtaicdjhblbobbaaGreat
open Go.RowKit Go.Lib

theorem take_same {d : DK} {a : Ask} (hw : a.whole = true) (hk : d.kind a.o = a.k) : d.take a = (d, 0) := by
  unfold DK.take; rw [if_pos hw, if_neg (by simp [hk])]
theorem take_put {d : DK} {a : Ask} (hw : a.whole = true) (hk : d.kind a.o ≠ a.k) : d.take a = (d.put a.o a.k, 0) := by
  unfold DK.take; rw [if_pos hw, if_pos hk]
theorem own_frozen {w : World} {e : TypeId} {sz n : Nat} {v : Value} {xs : List Value} (h : w.ownsRow 0 e sz v n xs) {b : Nat} (hb : v.ownBlock = some b) (j : Nat) : w.frozen? ⟨b, j, none⟩ = false := by
  obtain ⟨cur, hc⟩ := own_type h hb
  simp [World.frozen?, hc]

theorem step_store_arr {ops : Array Oper} {o : Oper} {a : Act} {w : World} {K : Act → World → Prop} {Q : Exit → Act → World → Prop} {E : Prop} (hgd : o.guard = none) (ty : TypeId) (x y : Operand) (ho : o.op = .store ty x y)
    (b off : Nat) (cells : Array Value) (hx : a.eval x = .pointer (some ⟨b, off, none⟩)) (hy : a.eval y = .agg cells)
    (ht : w.there b off cells.size) (hi : (Tryz.prog.info? ty).map (·.size) = some cells.size) (h1 : cells.all (·.oneCell') = true)
    (h : K (a.put o.dst undef) (w.setCells b off cells.toList)) : if Region.wanted o (yielded ops a.tmps) = true then Oper.wp Tryz.prog o a w K Q else E := by
  have hw : Region.wanted o (yielded ops a.tmps) = true := by simp [Region.wanted, hgd]
  rw [if_pos hw]
  exact wp_store_mid ty x y ho b off cells hx hy ht hi h1 h
theorem Tryz.undF : Tryz.prog.underlying 167 = some (.array 64 166) := by kernel_rfl
theorem Tryz.infoF : (Tryz.prog.info? 167).map (·.size) = some 384 := by kernel_rfl
theorem cellsF_all (C : Nat → Nat → Int) : (cellsF C).toArray.all (·.oneCell') = true := all_oneCell_toArray (cellsF_one C)
theorem Tryz.zeroF : Tryz.zeroCells167.size = 384 := by kernel_rfl
theorem paintC_start (C : Nat → Nat → Nat → Int) (a : Ask) : paintC C {a with t := a.f - 1} = C := by
  funext g j q
  unfold paintC
  exact if_neg (by simp only; omega)
theorem paintC_step (C : Nat → Nat → Nat → Int) (a : Ask) {i p : Nat} (hp : a.p = p) (hi : a.f ≤ (i : Int)) : (fun g j q => if g = a.file ∧ j = i ∧ q = p then a.k else paintC C {a with t := (i : Int) - 1} g j q) = paintC C {a with t := ((i + 1 : Nat) : Int) - 1} := by
  funext g j q
  unfold paintC
  simp only
  by_cases h1 : g = a.file ∧ j = i ∧ q = p
  · rw [if_pos h1, if_pos (by omega)]
  · rw [if_neg h1]
    by_cases h2 : g = a.file ∧ a.f ≤ (j : Int) ∧ (j : Int) ≤ (i : Int) - 1 ∧ (q : Int) = a.p
    · rw [if_pos h2, if_pos (by omega)]
    · rw [if_neg h2, if_neg (by omega)]
theorem paintC_back (C : Nat → Nat → Nat → Int) (a : Ask) : (fun g => if g = a.file then C a.file else paintC C a g) = C := by
  funext g
  by_cases h : g = a.file
  · rw [if_pos h, h]
  · rw [if_neg h]
    funext j q
    unfold paintC
    exact if_neg (fun h2 => h h2.1)
section
variable {w : World} {db : Nat} {P : Nat → Prop} {d : DK} {ov qv : Value} (h : DV w db P d ov qv) (hs : d.Sm) (a : Ask)
include h hs
set_option maxHeartbeats 8000000 in
set_option maxRecDepth 100000 in
theorem dTake_same (hw : a.whole = true) (ho : a.o < d.O.length) (hk : d.kind a.o = a.k) :
    Calls Tryz.prog 171 #[dkPtr db, dAskV a] w fun r w' => r = .returned (.int .i64 0) ∧ Below w.heap.size w w' := by
  obtain ⟨oa, oc, rfl⟩ := own_form h.o
  obtain ⟨x, hx⟩ : ∃ x, d.O[a.o]? = some x := ⟨_, List.getElem?_eq_getElem ho⟩
  obtain ⟨g, rfl, hg, k0, k1, k2⟩ := ogAt h.o hx
  have c36 := h.k.cO
  have hdb := h.k.lt
  have hol := hs.o
  have ho' : (a.o : Int) < (d.O.length : Int) := by omega
  rw [DK.kind_set hx] at hk
  rw [hk] at k1
  clear h hs hk hx
  unfold dkPtr dAskV at *
  rw [hw]
  go_enter Tryz.func171, Tryz.ntmps171
  go_wp2
  go_quiet (fail)
  go_wp2
  go_ret
  exact ⟨rfl, Below.drewN ((Below.refl _ _).alloc (Nat.le_refl _) _) _⟩
set_option maxHeartbeats 8000000 in
set_option maxRecDepth 100000 in
theorem dTake_put (hw : a.whole = true) (ho : a.o < d.O.length) (hk : d.kind a.o ≠ a.k) :
    Calls Tryz.prog 171 #[dkPtr db, dAskV a] w fun r w' => r = .returned (.int .i64 0) ∧ DV w' db P (d.put a.o a.k) ov qv ∧ KD db ov w w' := by
  obtain ⟨oa, oc, rfl⟩ := own_form h.o
  obtain ⟨x, hx⟩ : ∃ x, d.O[a.o]? = some x := ⟨_, List.getElem?_eq_getElem ho⟩
  obtain ⟨g, rfl, hg, k0, k1, k2⟩ := ogAt h.o hx
  have HV := Hid.mk h
  have c36 := h.k.cO
  have c90 := h.k.cN
  have f90 := h.k.frozen 1190
  have hdb := h.k.lt
  have hol := hs.o
  have hn := hs.n
  have fg1 : w.frozen? ⟨g, a.o * 3 + 1, none⟩ = false := own_frozen h.o rfl _
  have fg2 : w.frozen? ⟨g, a.o * 3 + 2, none⟩ = false := own_frozen h.o rfl _
  have hgd : g ≠ db := h.ne_o rfl
  have hdg : db ≠ g := fun e => hgd e.symm
  have ho' : (a.o : Int) < (d.O.length : Int) := by omega
  rw [DK.kind_set hx] at hk
  have hn1 : (0 : Int) ≤ d.n := hn.1
  have hn2 : d.n ≤ 100000000 := hn.2
  have HX := Hid.mk hx
  clear h hs hx hn
  unfold dkPtr dAskV at *
  rw [hw]
  go_enter Tryz.func171, Tryz.ntmps171
  go_wp2
  go_quiet (fail)
  go_wp2
  go_region
  go_wp2
  go_region
  go_wp2
  go_ret
  refine ⟨rfl, ?_, ?_⟩
  · have h0 := HV.out.below ((Below.refl _ _).alloc (Nat.le_refl _) (.cells #[.int .i64 a.p, .int .i64 a.k, .int .i64 a.file, .bool true, .int .i64 a.o, .int .i64 a.f, .int .i64 a.t] 218))
    have h1 := h0.turn (h0.k.setN (d.n + 1)) rfl rfl (Kp.setCell (by simp))
    have h2 := h1.setOg (o := a.o) (j := 1) (y := ⟨x.f, a.k, x.t⟩) (v := .int .i64 a.k) HX.out (by omega) rfl
    have h3 := h2.setOg (o := a.o) (j := 2) (x := ⟨x.f, a.k, x.t⟩) (y := ⟨x.f, a.k, d.n + 1⟩) (v := .int .i64 (d.n + 1)) (by simp [ho]) (by omega) rfl
    have e : ({A := d.A, G := d.G, O := (d.O.set a.o ⟨x.f, a.k, x.t⟩).set a.o ⟨x.f, a.k, d.n + 1⟩, C := d.C, Q := d.Q, n := d.n + 1} : DK) = d.put a.o a.k := by
      unfold DK.put
      rw [DK.file_set HX.out, List.set_set]
    rw [← e]
    exact h3.other rfl (fun _ _ => rfl) (fun _ _ => rfl)
  · have hu : KD db (.slice (some ⟨g, 0, none⟩) d.O.length oc) w (w.alloc (.cells #[.int .i64 a.p, .int .i64 a.k, .int .i64 a.file, .bool true, .int .i64 a.o, .int .i64 a.f, .int .i64 a.t] 218)) := (KD.refl _ _ w).alloc _
    refine KD.drew (KD.drew (KD.cell (KD.cell (KD.cell (KD.drewN hu _) ?_ _) ?_ _) ?_ _))
    · exact Or.inl rfl
    · exact Or.inr rfl
    · exact Or.inr rfl
omit hs in
set_option maxHeartbeats 16000000 in
set_option maxRecDepth 100000 in
theorem dTake_range (hw : a.whole = false) (hf : a.file < 3) (hr : 0 ≤ a.f ∧ a.f ≤ a.t ∧ a.t ≤ 63) (hp : a.p ∈ ps6) :
    Calls Tryz.prog 171 #[dkPtr db, dAskV a] w fun r w' => r = .returned (.int .i64 (d.take a).2) ∧ DV w' db P (d.take a).1 ov qv ∧ KD db ov w w' := by
  obtain ⟨p, hpe⟩ : ∃ p : Nat, a.p = p := ⟨a.p.toNat, by have := mem_ps6.1 hp; omega⟩
  have hp6 : p < 6 := by have := mem_ps6.1 hp; omega
  obtain ⟨h0, h1, h2⟩ := hr
  obtain ⟨f, hfe⟩ : ∃ f : Nat, a.f = f := ⟨a.f.toNat, by omega⟩
  have HV := Hid.mk h
  have hdb := h.k.lt
  have hbx := (Below.refl w.heap.size w).alloc (Nat.le_refl _) (.cells #[.int .i64 p, .int .i64 a.k, .int .i64 a.file, .bool false, .int .i64 a.o, .int .i64 f, .int .i64 a.t] 218)
  have HRA := Hid.mk (fun (W : World) (hW : Below w.heap.size w W) => (h.below hW).k.rangeF hf)
  have hi : (Tryz.prog.info? 167).map (·.size) = some (cellsF (d.C a.file)).length := by rw [cellsF_len]; exact Tryz.infoF
  have hcl := cellsF_len (d.C a.file)
  have hc1 := cellsF_one (d.C a.file)
  have HCA := Hid.mk (cellsF_all (d.C a.file))
  have hu := Tryz.undF
  clear hbx
  unfold dkPtr dAskV at *
  rw [hw, hpe, hfe]
  have hff : (a.file : Int) < 3 := by omega
  go_enter Tryz.func171, Tryz.ntmps171
  generalize hcs : cellsF (d.C a.file) = CS at *
  have HCE := Hid.mk hcs
  clear hcs
  go_wp2
  have hr0 := HRA.out _ ((Below.refl w.heap.size w).alloc (Nat.le_refl _) (.cells #[.int .i64 p, .int .i64 a.k, .int .i64 a.file, .bool false, .int .i64 a.o, .int .i64 f, .int .i64 a.t] 218))
  have hth : ((w.alloc (.cells #[.int .i64 p, .int .i64 a.k, .int .i64 a.file, .bool false, .int .i64 a.o, .int .i64 f, .int .i64 a.t] 218)).alloc (.cells Tryz.zeroCells167 167)).drew.there (w.heap.size + 1) 0 384 := by
    rw [World.there_drew]
    have hb := heap_alloc_new (w.alloc (.cells #[.int .i64 p, .int .i64 a.k, .int .i64 a.file, .bool false, .int .i64 a.o, .int .i64 f, .int .i64 a.t] 218)) (.cells Tryz.zeroCells167 167)
    rw [World.size_alloc] at hb
    intro j hj
    have hz := Tryz.zeroF
    generalize Tryz.zeroCells167 = Z at *
    rw [Nat.zero_add]
    refine ⟨?_, by simp only [World.frozen?, hb]; simp⟩
    simp only [World.cell?, hb]
    simp [hz, hj]
  go_region_held3 (fun u => u.cell? ⟨w.heap.size, 2, none⟩ = some (.int .i64 a.file) ∧ u.rangeAt db (37 + a.file * 384) CS) ((go_split_ands; refine ⟨by first | (simp [go_sem, World.cell?_alloc_past, *]; done) | (rw [World.cell?_setCells_out _ _ _ _ _ (fun e _ => absurd e (by simp))]; simp [go_sem, *]), ?_⟩; first | assumption | exact hr0 | exact HRA.out _ (((Below.refl _ _).alloc (Nat.le_refl _) _).drew) | exact HRA.out _ ((((Below.refl _ _).alloc (Nat.le_refl _) _).alloc (by simp) _).drew) | exact World.rangeAt_setCells_apart (HRA.out _ ((((Below.refl _ _).alloc (Nat.le_refl _) _).alloc (by simp) _).drew)) _ _ _ (Or.inl (by omega))))
    (first
      | (refine step_store_arr (by rfl) _ _ _ (by rfl) (w.heap.size + 1) 0 CS.toArray (by rfl) (by rfl) ?ht ?hi HCA.out ?_; (case ht => sorry); (case hi => sorry)))
  have HB7 : Hid (Below w.heap.size w ((((w.alloc (.cells #[.int .i64 p, .int .i64 a.k, .int .i64 a.file, .bool false, .int .i64 a.o, .int .i64 f, .int .i64 a.t] 218)).alloc (.cells Tryz.zeroCells167 167)).drew.setCells (w.heap.size + 1) 0 CS))) := by
    have hb : Below w.heap.size w (((w.alloc (.cells #[.int .i64 p, .int .i64 a.k, .int .i64 a.file, .bool false, .int .i64 a.o, .int .i64 f, .int .i64 a.t] 218)).alloc (.cells Tryz.zeroCells167 167)).drew) := (((Below.refl _ _).alloc (Nat.le_refl _) _).alloc (by simp) _).drew
    have hk := Kp.setCells (bs := [w.heap.size + 1]) (b := w.heap.size + 1) (by simp) CS 0 (((w.alloc (.cells #[.int .i64 p, .int .i64 a.k, .int .i64 a.file, .bool false, .int .i64 a.o, .int .i64 f, .int .i64 a.t] 218)).alloc (.cells Tryz.zeroCells167 167)).drew)
    exact ⟨hk.os.trans hb.os, hk.tape.trans hb.tape, hk.output.trans hb.output, Nat.le_trans hb.size hk.size, fun k h => (hk.block k (Nat.lt_of_lt_of_le h hb.size) (by simp; omega)).trans (hb.block k h)⟩
  have HX7 : Hid (((((w.alloc (.cells #[.int .i64 p, .int .i64 a.k, .int .i64 a.file, .bool false, .int .i64 a.o, .int .i64 f, .int .i64 a.t] 218)).alloc (.cells Tryz.zeroCells167 167)).drew.setCells (w.heap.size + 1) 0 CS)).heap[w.heap.size]? = some (.cells #[.int .i64 p, .int .i64 a.k, .int .i64 a.file, .bool false, .int .i64 a.o, .int .i64 f, .int .i64 a.t] 218 (0, 0))) := by
    have hk := Kp.setCells (bs := [w.heap.size + 1]) (b := w.heap.size + 1) (by simp) CS 0 (((w.alloc (.cells #[.int .i64 p, .int .i64 a.k, .int .i64 a.file, .bool false, .int .i64 a.o, .int .i64 f, .int .i64 a.t] 218)).alloc (.cells Tryz.zeroCells167 167)).drew)
    exact (hk.block w.heap.size (by simp; omega) (by simp)).trans ((Below.heap_alloc _ _ _ (by simp)).trans (heap_alloc_new w _))
  have HR7 := Hid.mk (World.rangeAt_setCells_same _ (w.heap.size + 1) 0 CS (by rw [hcl]; exact hth))
  have HS7 : Hid (w.heap.size + 1 < (((w.alloc (.cells #[.int .i64 p, .int .i64 a.k, .int .i64 a.file, .bool false, .int .i64 a.o, .int .i64 f, .int .i64 a.t] 218)).alloc (.cells Tryz.zeroCells167 167)).drew.setCells (w.heap.size + 1) 0 CS).heap.size) := by
    have hk := Kp.setCells (bs := [w.heap.size + 1]) (b := w.heap.size + 1) (by simp) CS 0 (((w.alloc (.cells #[.int .i64 p, .int .i64 a.k, .int .i64 a.file, .bool false, .int .i64 a.o, .int .i64 f, .int .i64 a.t] 218)).alloc (.cells Tryz.zeroCells167 167)).drew)
    exact Nat.lt_of_lt_of_le (by simp) hk.size
  have HI7 := Hid.mk hi
  have HC7 := Hid.mk hc1
  clear hth hr0 hu hi hc1
  generalize (((w.alloc (.cells #[.int .i64 p, .int .i64 a.k, .int .i64 a.file, .bool false, .int .i64 a.o, .int .i64 f, .int .i64 a.t] 218)).alloc (.cells Tryz.zeroCells167 167)).drew.setCells (w.heap.size + 1) 0 CS) = W7 at *
  have c5 : W7.cell? ⟨w.heap.size, 5, none⟩ = some (.int .i64 f) := by simp only [World.cell?, HX7.out]; rfl
  have HPS := Hid.mk (fun (i : Nat) (hi : a.f ≤ (i : Int)) => paintC_step d.C a (i := i) hpe hi)
  have HV7 := Hid.mk (HV.out.below HB7.out)
  go_wp2
  go_loopw [6] (fun s6 wr => ∃ i : Nat, s6 = .int .i64 i ∧ f ≤ i ∧ (i : Int) ≤ a.t + 1 ∧ Hid (DeskB wr db {d with C := paintC d.C {a with t := (i : Int) - 1}} ov qv) ∧ Hid (Kp [db] W7 wr)) (fun s6 _ => 64 - (intOf s6).toNat)
  case atStart =>
    refine ⟨f, rfl, Nat.le_refl _, by omega, ?_, Kp.refl _ _⟩
    have e : paintC d.C {a with t := (f : Int) - 1} = d.C := by rw [← hfe]; exact paintC_start d.C a
    show DeskB W7 db {d with C := paintC d.C {a with t := (f : Int) - 1}} ov qv
    rw [e]; exact HV7.out.k
  case round =>
    obtain ⟨i, rfl, hfi, hit, HB, HP⟩ := hrel
    have hzr := HP.out.size
    have hxr := (HP.out.block w.heap.size (by have := HS7.out; omega) (by simp; omega)).trans HX7.out
    have b0 : wr.cell? ⟨w.heap.size, 0, none⟩ = some (.int .i64 p) := by simp only [World.cell?, hxr]; rfl
    have b1 : wr.cell? ⟨w.heap.size, 1, none⟩ = some (.int .i64 a.k) := by simp only [World.cell?, hxr]; rfl
    have b2 : wr.cell? ⟨w.heap.size, 2, none⟩ = some (.int .i64 a.file) := by simp only [World.cell?, hxr]; rfl
    have b6 : wr.cell? ⟨w.heap.size, 6, none⟩ = some (.int .i64 a.t) := by simp only [World.cell?, hxr]; rfl
    have HXR := Hid.mk hxr
    clear hxr
    by_cases hlt : (i : Int) ≤ a.t
    · have hi64 : i < 64 := by omega
      have hi64' : (i : Int) < 64 := by omega
      have hp6' : (p : Int) < 6 := by omega
      have hc := HB.out.cC hf hi64 hp6
      have hfr := HB.out.frozen (37 + a.file * 384 + i * 6 + p)
      go_wp2
      go_region
      go_wp2
      go_roundw
      case rel =>
        refine ⟨i + 1, by go_num, by omega, by omega, ?_, (HP.out.trans (Kp.setCell (a := ⟨db, _, none⟩) (by simp))).drew⟩
        have hx := (HB.out.setC hf hi64 hp6 a.k)
        have e := HPS.out i (by omega)
        simp only at hx
        rw [e] at hx
        exact hx.of_block rfl
      case measure => simp [intOf]; omega
    · have hie : (i : Int) - 1 = a.t := by omega
      have hkb := HB.out
      rw [hie] at hkb
      have hdv := HV7.out.turn hkb rfl rfl HP.out
      have HDV := Hid.mk hdv
      have HRN := Hid.mk (dRuns_any hdv (a.file : Int))
      have hrs : ({d with C := paintC d.C a} : DK).runs (a.file : Int) = DK.runsOf (paintC d.C a a.file) := by
        unfold DK.runs
        rw [if_pos (by unfold fileB; simp; omega)]
        rfl
      have hR2 : ∀ W : World, Below wr.heap.size wr W → W.rangeAt (w.heap.size + 1) 0 CS := fun W hW j v hv => by
        have h7 := HS7.out
        rw [hW.cell (p := ⟨w.heap.size + 1, 0 + j, none⟩) (show w.heap.size + 1 < wr.heap.size by omega)]
        have hb := HP.out.block (w.heap.size + 1) h7 (by simp; omega)
        rw [World.cell?_of_block (a := ⟨w.heap.size + 1, 0 + j, none⟩) hb]
        exact HR7.out j v hv
      have HR2 := Hid.mk hR2
      have htk : d.take a = if 12 < (DK.runsOf (paintC d.C a a.file)).length then (d, 9) else ({d with C := paintC d.C a}, 0) := by
        unfold DK.take
        rw [if_neg (by simp [hw])]
      have HTK := Hid.mk htk
      have hea : ({p := a.p, k := a.k, file := a.file, whole := a.whole, o := a.o, f := a.f, t := a.t} : Ask) = a := rfl
      clear hkb hdv hR2 htk hea
      rw [hrs] at HRN
      clear hrs
      generalize DK.runsOf (paintC d.C a a.file) = RS at *
      by_cases h12 : 12 < RS.length
      · have h12' : (12 : Int) < (RS.length : Int) := by omega
        have HTE := Hid.mk (show d.take a = (d, 9) by rw [HTK.out, if_pos h12])
        go_wp2_with (go_at_call 91; refine HRN.out.mono ?_; rintro e w2 ⟨v2, rfl, ho2, hb2⟩; obtain ⟨a2, c2, rfl⟩ := own_form ho2; have hz2 := hb2.size; have hx2 := (hb2.block _ (Nat.lt_of_lt_of_le (Nat.lt_of_succ_lt HS7.out) hzr)).trans HXR.out; have q2 : w2.cell? ⟨w.heap.size, 2, none⟩ = some (.int .i64 a.file) := (by simp only [World.cell?, hx2]; rfl); have HB2 := Hid.mk hb2; clear ho2 hb2 hx2)
        have hr2 := HR2.out w2 HB2.out
        have ht2 := (HDV.out.below HB2.out).k.thereF hf
        have hu := Tryz.undF
        have hi := HI7.out
        have hc1 := HC7.out
        have hcl2 : CS.length = 384 := hcl
        have HS2 : Hid (w.heap.size + 1 < w2.heap.size) := Nat.lt_of_lt_of_le HS7.out (Nat.le_trans hzr hz2)
        have hdne : db ≠ w.heap.size + 1 := by omega
        have hdne2 : db ≠ w.heap.size := by omega
        go_region_held3 (fun u => u.cell? ⟨w.heap.size, 2, none⟩ = some (.int .i64 a.file) ∧ u.rangeAt (w.heap.size + 1) 0 CS ∧ u.there db (37 + a.file * 384) 384) ((go_split_ands; refine ⟨by first | (simp [go_sem, *]; done) | (rw [World.cell?_setCells_out _ _ _ _ _ (fun e _ => absurd e (by simp; omega))]; simp [go_sem, *]), ?_, ?_⟩; (first | assumption | (simp only [World.rangeAt_drew]; assumption) | (refine World.rangeAt_setCells_apart (by assumption) _ _ _ (Or.inl (by omega)))); (first | assumption | (simp only [World.there_drew]; assumption) | (apply World.there_setCells; assumption))))
          (fail)
        go_wp2
        go_ret
        rw [HTE.out]
        have h2 : DV w2.drew db P {d with C := paintC d.C a} ov qv := (HDV.out.below HB2.out).other rfl (fun _ _ => rfl) (fun _ _ => rfl)
        have hk := h2.k.setF hf (d.C a.file)
        rw [HCE.out] at hk
        simp only at hk
        rw [paintC_back] at hk
        have hkp : Kp [db] w2.drew (w2.drew.setCells db (37 + a.file * 384) CS) := Kp.setCells (by simp) CS _ w2.drew
        have h3 := h2.turn hk rfl rfl hkp
        refine ⟨rfl, h3, ?_⟩
        have hU := (KD.of_below (db := db) (ov := ov) HB7.out).trans ((KD.of_kp HP.out).trans ((KD.of_below HB2.out).drew.trans (KD.of_kp hkp)))
        exact hU
      · have h12' : ¬ ((12 : Int) < (RS.length : Int)) := by omega
        have HTE := Hid.mk (show d.take a = ({d with C := paintC d.C a}, 0) by rw [HTK.out, if_neg h12])
        go_wp2_with (go_at_call 91; refine HRN.out.mono ?_; rintro e w2 ⟨v2, rfl, ho2, hb2⟩; obtain ⟨a2, c2, rfl⟩ := own_form ho2; have HB2 := Hid.mk hb2; clear ho2 hb2)
        go_ret
        rw [HTE.out]
        refine ⟨rfl, HDV.out.below HB2.out, ?_⟩
        exact (KD.of_below HB7.out).trans ((KD.of_kp HP.out).trans (KD.of_below HB2.out))
end
/-- One has its lock. -/
theorem dTake_any {w : World} {db : Nat} {P : Nat → Prop} {d : DK} {ov qv : Value} (h : DV w db P d ov qv) (hs : d.Sm) (a : Ask) (hf : a.file < 3) (hp : a.p ∈ ps6) (ho : a.whole = true → a.o < d.O.length) (hr : a.whole = false → 0 ≤ a.f ∧ a.f ≤ a.t ∧ a.t ≤ 63) :
    Calls Tryz.prog 171 #[dkPtr db, dAskV a] w fun r w' => r = .returned (.int .i64 (d.take a).2) ∧ DV w' db P (d.take a).1 ov qv ∧ KD db ov w w' := by
  cases hw : a.whole with
  | false => exact dTake_range h a hw hf (hr hw) hp
  | true =>
    by_cases hk : d.kind a.o = a.k
    · rw [take_same hw hk]
      refine (dTake_same h hs a hw (ho hw) hk).mono ?_
      rintro r w' ⟨h1, h2⟩
      exact ⟨h1, h.below h2, KD.of_below h2⟩
    · rw [take_put hw hk]
      exact dTake_put h hs a hw (ho hw) hk
end Go.Proofs.YtaicdjhblbobbaaGreat

/- The relation of the document's answer in memory to a state of the model. -/
namespace Go.Proofs.YtaicdjhblbobbaaGreat
open Go.RowKit Go.Lib

/-- What a call works on: tables that tell the state s; at most M locks of whole files were got. -/
def DZ (w : World) (db : Nat) (P : Nat → Prop) (s : DS) (M : Nat) : Prop := ∃ d ov qv, DV w db P d ov qv ∧ Sim s d ∧ d.n ≤ (M : Int)
/-- A Desk in block db, whose own blocks are of P, in the state s; nothing in it greater than M. -/
def drep (w : World) (db : Nat) (P : Nat → Prop) (M : Nat) (s : DS) : Prop := (∀ b, P b → b < w.heap.size) ∧ s.N ≤ M ∧ DZ w db P s M
section
variable {w w' : World} {db : Nat} {P Q : Nat → Prop} {d : DK} {ov qv : Value} {s : DS} {M : Nat}
theorem DV.narrow (h : DV w db P d ov qv) (hq : ∀ b cur t, P b → w.heap[b]? = some (.cells cur t (0, 0)) → t ∈ [171, 215, 218] → Q b) : DV w db Q d ov qv := by
  refine ⟨h.k, h.o, h.q, ?_, fun b e => ?_, fun b e => ?_⟩
  · obtain ⟨C, hC, _⟩ := h.k
    exact hq db C _ h.pk hC (by decide)
  · obtain ⟨cur, hc⟩ := own_type h.o e
    exact hq b cur _ (h.po b e) hc (by decide)
  · obtain ⟨cur, hc⟩ := own_type h.q e
    exact hq b cur _ (h.pq b e) hc (by decide)
theorem DV.wide (h : DV w db P d ov qv) (hq : ∀ b, P b → Q b) : DV w db Q d ov qv := ⟨h.k, h.o, h.q, hq _ h.pk, fun b e => hq b (h.po b e), fun b e => hq b (h.pq b e)⟩
theorem DZ.wide (h : DZ w db P s M) (hq : ∀ b, P b → Q b) : DZ w db Q s M := by
  obtain ⟨d, ov, qv, h1, h2, h3⟩ := h
  exact ⟨d, ov, qv, h1.wide hq, h2, h3⟩
theorem DZ.more {M' : Nat} (h : DZ w db P s M) (hm : M ≤ M') : DZ w db P s M' := by
  obtain ⟨d, ov, qv, h1, h2, h3⟩ := h
  exact ⟨d, ov, qv, h1, h2, by omega⟩
theorem DZ.below (h : DZ w db P s M) (hb : Below w.heap.size w w') : DZ w' db P s M := by
  obtain ⟨d, ov, qv, h1, h2, h3⟩ := h
  exact ⟨d, ov, qv, h1.below hb, h2, h3⟩
theorem drep.frame (h : drep w db P M s) (hs : w.heap.size ≤ w'.heap.size) (hb : ∀ b, P b → w'.heap[b]? = w.heap[b]?) : drep w' db P M s := by
  obtain ⟨h0, h1, d, ov, qv, h2, h3, h4⟩ := h
  exact ⟨fun b hp => Nat.lt_of_lt_of_le (h0 b hp) hs, h1, d, ov, qv, h2.frame hb, h3, h4⟩
theorem drep.more {M' : Nat} (h : drep w db P M s) (hm : M ≤ M') : drep w db P M' s := ⟨h.1, Nat.le_trans h.2.1 hm, h.2.2.more hm⟩
/-- The Desk behind a call, the lists that were told set apart. -/
theorem DZ.after (h : DZ w' db (fun b => P b ∨ w.heap.size ≤ b) s M) {vs : List Value} (hv : ∀ v, v ∈ vs → ∀ b, v.ownBlock = some b → ∃ cur t, w'.heap[b]? = some (.cells cur t (0, 0)) ∧ t ∉ [171, 215, 218]) (hN : s.N ≤ M) :
    drep w' db (after w w' P vs) M s := by
  obtain ⟨d, ov, qv, h1, h2, h3⟩ := h
  refine ⟨fun b hp => hp.2.1, hN, d, ov, qv, h1.narrow fun b cur t hp hb ht => ⟨hp, (Array.getElem?_eq_some_iff.1 hb).1, fun v hm e => ?_⟩, h2, h3⟩
  obtain ⟨cur2, t2, hc, hn⟩ := hv v hm b e
  rw [hb] at hc
  cases hc
  exact hn ht
theorem upd_afterD (h : Upd (fun b => P b ∨ w.heap.size ≤ b) (fun b => P b ∨ w.heap.size ≤ b) w w') (vs : List Value) : Upd P (after w w' P vs) w w' :=
  ⟨h.os, h.tape, h.output, h.size, fun k hl hn => h.block k hl (by rintro (e | e); exact hn e; omega), fun k hl hp => by
    rcases hp.1 with h | h
    · exact h
    · omega⟩
end
end Go.Proofs.YtaicdjhblbobbaaGreat

/- Contract of the document's answer: who waits no more. -/
namespace Go.Proofs.YtaicdjhblbobbaaGreat
open Go.RowKit Go.Lib

/-- What the search for one that nothing is in the way of has found, of those from k on. -/
def FoundF (t : DS) (k : Nat) (f : Int) : Prop := (f = -1 ∧ ∀ (j : Nat) b, k ≤ j → t.Q[j]? = some b → t.way b (t.Q.take j) ≠ []) ∨ ∃ (i : Nat) (a : Ask), f = i ∧ k ≤ i ∧ t.Q[i]? = some a ∧ t.way a (t.Q.take i) = [] ∧ ∀ (j : Nat) b, k ≤ j → j < i → t.Q[j]? = some b → t.way b (t.Q.take j) ≠ []
theorem FoundF.start (t : DS) : FoundF t t.Q.length (-1) := Or.inl ⟨rfl, fun j b hj hb => by have := (List.getElem?_eq_some_iff.1 hb).1; omega⟩
theorem FoundF.free {t : DS} {k : Nat} {f : Int} (_h : FoundF t (k + 1) f) {x : Ask} (hx : t.Q[k]? = some x) (hw : t.way x (t.Q.take k) = []) : FoundF t k k :=
  Or.inr ⟨k, x, rfl, Nat.le_refl _, hx, hw, fun j b h1 h2 => by omega⟩
theorem FoundF.on {t : DS} {k : Nat} {f : Int} (h : FoundF t (k + 1) f) {x : Ask} (hx : t.Q[k]? = some x) (hw : t.way x (t.Q.take k) ≠ []) : FoundF t k f := by
  have key : ∀ (j : Nat) b, k ≤ j → (k + 1 ≤ j → t.way b (t.Q.take j) ≠ []) → t.Q[j]? = some b → t.way b (t.Q.take j) ≠ [] := fun j b h1 h2 h3 => by
    by_cases e : j = k
    · subst e; rw [hx] at h3; cases h3; exact hw
    · exact h2 (by omega)
  rcases h with ⟨h1, h2⟩ | ⟨i, a, h1, h2, h3, h4, h5⟩
  · exact Or.inl ⟨h1, fun j b hj hb => key j b hj (fun h => h2 j b h hb) hb⟩
  · exact Or.inr ⟨i, a, h1, by omega, h3, h4, fun j b g1 g2 g3 => key j b g1 (fun h => h5 j b h g2 g3) g3⟩
theorem FoundF.done {t : DS} {f : Int} (h : FoundF t 0 f) : (f = -1 ∧ t.free? = none) ∨ ∃ (i : Nat) (a : Ask), f = i ∧ t.Q[i]? = some a ∧ t.way a (t.Q.take i) = [] ∧ t.free? = some i := by
  rcases h with ⟨h1, h2⟩ | ⟨i, a, h1, _, h3, h4, h5⟩
  · exact Or.inl ⟨h1, DS.free_none_of fun j b hb => h2 j b (Nat.zero_le _) hb⟩
  · exact Or.inr ⟨i, a, h1, h3, h4, DS.free_of h3 h4 fun j b hj hb => h5 j b (Nat.zero_le _) hj hb⟩
/-- What the search for the last that is stuck has found, of those below n. -/
def FoundL (t : DS) (n : Nat) (f : Int) : Prop := (f = -1 ∧ ∀ (j : Nat) b, j < n → t.Q[j]? = some b → b.p ∉ t.stuck) ∨ ∃ (i : Nat) (a : Ask), f = i ∧ i < n ∧ t.Q[i]? = some a ∧ a.p ∈ t.stuck ∧ ∀ (j : Nat) b, i < j → j < n → t.Q[j]? = some b → b.p ∉ t.stuck
theorem FoundL.start (t : DS) : FoundL t 0 (-1) := Or.inl ⟨rfl, fun j b hj => by omega⟩
theorem FoundL.hit {t : DS} {n : Nat} {f : Int} (_h : FoundL t n f) {x : Ask} (hx : t.Q[n]? = some x) (hw : x.p ∈ t.stuck) : FoundL t (n + 1) n :=
  Or.inr ⟨n, x, rfl, by omega, hx, hw, fun j b h1 h2 => by omega⟩
theorem FoundL.on {t : DS} {n : Nat} {f : Int} (h : FoundL t n f) {x : Ask} (hx : t.Q[n]? = some x) (hw : x.p ∉ t.stuck) : FoundL t (n + 1) f := by
  have key : ∀ (j : Nat) b, j < n + 1 → (j < n → b.p ∉ t.stuck) → t.Q[j]? = some b → b.p ∉ t.stuck := fun j b h1 h2 h3 => by
    by_cases e : j = n
    · subst e; rw [hx] at h3; cases h3; exact hw
    · exact h2 (by omega)
  rcases h with ⟨h1, h2⟩ | ⟨i, a, h1, h2, h3, h4, h5⟩
  · exact Or.inl ⟨h1, fun j b hj hb => key j b hj (fun h => h2 j b h hb) hb⟩
  · exact Or.inr ⟨i, a, h1, by omega, h3, h4, fun j b g1 g2 g3 => key j b g2 (fun h => h5 j b g1 h g3) g3⟩
theorem FoundL.done {t : DS} {f : Int} (h : FoundL t t.Q.length f) : (f = -1 ∧ t.last? = none) ∨ ∃ (i : Nat) (a : Ask), f = i ∧ t.Q[i]? = some a ∧ t.last? = some i := by
  rcases h with ⟨h1, h2⟩ | ⟨i, a, h1, _, h3, h4, h5⟩
  · exact Or.inl ⟨h1, DS.last_none_of fun j b hb => h2 j b (List.getElem?_eq_some_iff.1 hb).1 hb⟩
  · exact Or.inr ⟨i, a, h1, h3, DS.last_of h3 h4 fun j b hj hb => h5 j b hj (List.getElem?_eq_some_iff.1 hb).1 hb⟩
/-- A row that is told grows beside it. -/
theorem DV.app {w w' : World} {db : Nat} {P : Nat → Prop} {d : DK} {ov qv : Value} (h : DV w db P d ov qv) {base n : Nat} {o : Value} {xs : List Value} (ho : w.ownsRow base 57 2 o n xs) (hold : ∀ b, b < w.heap.size → o.ownBlock ≠ some b → w'.heap[b]? = w.heap[b]?) : DV w' db P d ov qv := by
  refine h.other ?_ (fun b e => hold b (own_lt h.o e) fun e2 => ?_) (fun b e => hold b (own_lt h.q e) fun e2 => ?_)
  · refine hold db h.k.lt fun e2 => ?_
    obtain ⟨c1, k1⟩ := own_tag ho e2
    obtain ⟨C, hC, _⟩ := h.k
    rw [hC] at k1
    cases k1
  · obtain ⟨c1, k1⟩ := own_tag ho e2
    obtain ⟨c2, k2⟩ := own_type h.o e
    rw [k1] at k2
    cases k2
  · obtain ⟨c1, k1⟩ := own_tag ho e2
    obtain ⟨c2, k2⟩ := own_type h.q e
    rw [k1] at k2
    cases k2
theorem KD.row {w w' : World} {db : Nat} {P : Nat → Prop} {d : DK} {ov qv : Value} (hk : KD db ov w w') (h : DV w db P d ov qv) {base sz n : Nat} {t : TypeId} {o : Value} {xs : List Value} (ho : w.ownsRow base t sz o n xs) (h1 : t ≠ 171) (h2 : t ≠ 215) : w'.ownsRow base t sz o n xs := own_blk ho fun b e => hk.block b (ho.lt b e).2 (fun hb => by
    obtain ⟨c1, k1⟩ := own_tag ho e
    obtain ⟨C, hC, _⟩ := h.k
    rw [hb, hC] at k1
    cases k1
    exact h1 rfl) (fun e2 => by
    obtain ⟨c1, k1⟩ := own_tag ho e
    obtain ⟨c2, k2⟩ := own_type h.o e2
    rw [k1] at k2
    cases k2
    exact h2 rfl)
/-- What settling has made so far. -/
structure SetI (w wr : World) (db : Nat) (P : Nat → Prop) (s : DS) (M : Int) (ov : Value) (t : DS) (e : DK) (D : List Dn) (qv o : Value) : Prop where
  v : DV wr db P e ov qv
  sim : Sim t e
  bas : t.Bas
  st : s.settle = (t.settle.1, D ++ t.settle.2)
  own : wr.ownsRow w.heap.size 57 2 o D.length (flatD D)
  k : KD db ov w wr
  n : e.n + t.Q.length ≤ M
  N : t.N = s.N

set_option maxHeartbeats 16000000 in
set_option maxRecDepth 100000 in
theorem dSettle_any {w : World} {db : Nat} {P : Nat → Prop} {d : DK} {ov qv : Value} {s : DS} (h : DV w db P d ov qv) (hsim : Sim s d) (hbas : s.Bas) (hP : ∀ b, w.heap.size ≤ b → P b) (hN : s.N ≤ 10000000) (hM : d.n + s.Q.length ≤ 100000000) :
    Calls Tryz.prog 142 #[dkPtr db] w fun r w' => ∃ o, r = .returned o ∧ w'.ownsRow w.heap.size 57 2 o s.settle.2.length (flatD s.settle.2) ∧ (∃ d' qv', DV w' db P d' ov qv' ∧ Sim s.settle.1 d' ∧ d'.n ≤ d.n + s.Q.length) ∧ KD db ov w w' := by
  have HS0 : Hid (SetI w w db P s (d.n + s.Q.length) ov s d [] qv (.slice none 0 0)) := ⟨h, hsim, hbas, rfl, World.ownsRow_nil _ _ _ _, KD.refl _ _ _, Int.le_refl _, rfl⟩
  have HPP := Hid.mk hP
  have hdl := h.k.lt
  have HM := Hid.mk hM
  have HNN := Hid.mk hN
  have HQ6 : Hid (∀ t : DS, t.Bas → t.Q.length ≤ 6) := fun t ht => ones_le ht.qn (fun a ha => live_mem (ht.q a ha).1.l)
  have hQ6 := HQ6.out s hbas
  clear h hsim hbas hP hM hN
  unfold dkPtr at *
  go_enter Tryz.func142, Tryz.ntmps142
  go_wp2
  go_loopg [3, 4, 5, 6, 7, 8, 9, 10, 11] s.Q.length (fun gm s3 _ _ _ _ _ _ _ _ wr => ∃ (t : DS) (e : DK) (D : List Dn) (qv' : Value), gm = t.Q.length ∧ D.length + t.Q.length ≤ s.Q.length ∧ Hid (SetI w wr db P s (d.n + s.Q.length) ov t e D qv' s3))
  case atStart => exact ⟨s, d, [], qv, rfl, by simp, HS0.out⟩
  case round =>
    clear HS0
    obtain ⟨w0, hw0⟩ : ∃ w0, w0 = wr := ⟨_, rfl⟩
    subst hw0
    obtain ⟨t, e, D, qv', rfl, hDl, HI⟩ := hrel
    have hsz : w.heap.size ≤ w0.heap.size := HI.out.k.size
    obtain ⟨qa, qc, rfl⟩ := own_form HI.out.v.q
    have cq := HI.out.v.k.cQ
    have HQE := Hid.mk HI.out.sim.Q
    rw [HI.out.sim.Q] at cq
    have hsm : e.Sm := HI.out.sim.sm HI.out.bas (by rw [HI.out.N]; exact HNN.out) (by have h1 := HI.out.n; have h2 := HM.out; omega)
    have HSM := Hid.mk hsm
    clear hsm
    by_cases h0 : t.Q.length = 0
    · have HT0 := Hid.mk (DS.settle_empty (List.eq_nil_of_length_eq_zero h0))
      rw [h0] at cq
      go_wp2
      go_ret
      have hst := HI.out.st
      rw [HT0.out] at hst
      simp only [List.append_nil] at hst
      rw [hst]
      refine ⟨_, rfl, HI.out.own, ⟨e, _, HI.out.v, HI.out.sim, ?_⟩, HI.out.k⟩
      have := HI.out.n
      omega
    · have h0' : (0 : Int) < (t.Q.length : Int) := by omega
      have hwrd : db < w0.heap.size := by omega
      have HWY := Hid.mk (fun (W : World) (hW : Below w0.heap.size w0 W) (i : Nat) (x : Ask) (hx : t.Q[i]? = some x) => by
        have hx' : e.Q[i]? = some x := by rw [HQE.out]; exact hx
        have hq := HSM.out.qa x (List.mem_of_getElem? hx')
        have hh := dWay_any (HI.out.v.below hW) HSM.out x hq.2.1 hq.2.2.2 (n0 := i) (Nat.le_of_lt (List.getElem?_eq_some_iff.1 hx').1)
        rw [HQE.out] at hh
        exact hh)
      have HWN := Hid.mk (fun (i : Nat) (x : Ask) (hx : t.Q[i]? = some x) => HI.out.sim.way_nil HI.out.bas (HI.out.bas.q x (List.mem_of_getElem? hx)).1 (t.Q.take i))
      have HLN : Hid (∀ (x : Ask) (n : Nat), (e.way x (t.Q.take n)).length ≤ 10000020) := fun x n => by
        have h1 := wayQ_len x (t.Q.take n)
        have h2 : (t.Q.take n).length ≤ t.Q.length := List.length_take_le' _ _
        have h3 := HQ6.out t HI.out.bas
        have h4 := HSM.out.o
        cases hw : x.whole with
        | false => rw [e.way_range _ hw, List.length_append]; have := e.wayH_len x 6; omega
        | true => rw [e.way_whole _ hw, List.length_append]; have := e.wayW_len x e.O.length; omega
      have HR : Hid (∀ (W : World), Below w0.heap.size w0 W → W.ownsRow 0 218 7 (.slice qa t.Q.length qc) t.Q.length (flatA t.Q)) := fun W hW => by
        have := (HI.out.v.below hW).q
        rw [HQE.out] at this
        exact this
      have HCQ : Hid (∀ (W : World), Below w0.heap.size w0 W → W.cell? ⟨db, 1189, none⟩ = some (.slice qa t.Q.length qc)) := fun W hW => by
        have := (HI.out.v.below hW).k.cQ
        rw [HQE.out] at this
        exact this
      have h0n : 0 < t.Q.length := by omega
      go_wp2
      go_loopw [4, 5, 6] (fun s4 s5 _ wq => ∃ (k : Nat) (j f : Int), s5 = .int .i64 j ∧ j = (k : Int) - 1 ∧ k ≤ t.Q.length ∧ s4 = .int .i64 f ∧ Hid (FoundF t k f) ∧ Hid (Below w0.heap.size w0 wq)) (fun _ s5 _ _ => (intOf s5 + 1).toNat)
      case atStart => exact ⟨t.Q.length, (t.Q.length : Int) - 1, -1, rfl, rfl, Nat.le_refl _, rfl, FoundF.start t, Below.refl _ _⟩
      case round =>
        obtain ⟨k, j, f, rfl, hj, hk, rfl, HF, HB⟩ := hrel
        have hszq : w0.heap.size ≤ wr.heap.size := HB.out.size
        have cqr := HCQ.out wr HB.out
        by_cases hk0 : k = 0
        · subst hk0
          obtain rfl : j = -1 := by omega
          clear hj
          rcases HF.out.done with ⟨rfl, hfr⟩ | ⟨i, a, rfl, ha, hw, hfr⟩
          · have HSTK := Hid.mk (dStuck_any (HI.out.v.below HB.out) HSM.out HI.out.sim HI.out.bas)
            have HFR := Hid.mk hfr
            unfold dkPtr bs6 at HSTK
            clear hfr
            go_wp2_with (go_at_call 172; refine HSTK.out.mono ?_; rintro r w1 ⟨rfl, hb1⟩; have hz1 := hb1.size; have HSX := Hid.mk (show Six (w1.alloc (.cells (bs6 fun p => decide ((p : Int) ∈ t.stuck)) 155)) w1.heap.size fun p => decide ((p : Int) ∈ t.stuck) from heap_alloc_new w1 _); have HB1 := Hid.mk hb1; clear hb1)
            unfold bs6 at HSX
            have HBW : Hid (Below w0.heap.size w0 (w1.alloc (.cells #[.bool (decide (((0 : Nat) : Int) ∈ t.stuck)), .bool (decide (((1 : Nat) : Int) ∈ t.stuck)), .bool (decide (((2 : Nat) : Int) ∈ t.stuck)), .bool (decide (((3 : Nat) : Int) ∈ t.stuck)), .bool (decide (((4 : Nat) : Int) ∈ t.stuck)), .bool (decide (((5 : Nat) : Int) ∈ t.stuck))] 155))) := (HB.out.trans (HB1.out.mono hszq)).alloc (by omega) _
            generalize (w1.alloc (.cells #[.bool (decide (((0 : Nat) : Int) ∈ t.stuck)), .bool (decide (((1 : Nat) : Int) ∈ t.stuck)), .bool (decide (((2 : Nat) : Int) ∈ t.stuck)), .bool (decide (((3 : Nat) : Int) ∈ t.stuck)), .bool (decide (((4 : Nat) : Int) ∈ t.stuck)), .bool (decide (((5 : Nat) : Int) ∈ t.stuck))] 155)) = W at *
            have cqW := HCQ.out W HBW.out
            have HRW := Hid.mk (HR.out W HBW.out)
            have hzW : w0.heap.size ≤ W.heap.size := HBW.out.size
            go_loop [10, 11] (fun s10 s11 => ∃ (n : Nat) (f : Int), s11 = .int .i64 n ∧ n ≤ t.Q.length ∧ s10 = .int .i64 f ∧ Hid (FoundL t n f)) (fun _ s11 => t.Q.length - (intOf s11).toNat)
            case atStart => exact ⟨0, -1, rfl, Nat.zero_le _, rfl, FoundL.start t⟩
            case round =>
              obtain ⟨n, f, rfl, hn, rfl, HL⟩ := hrel
              by_cases hlt : n < t.Q.length
              · have hlt' : (n : Int) < (t.Q.length : Int) := by omega
                obtain ⟨x, hx⟩ : ∃ x, t.Q[n]? = some x := ⟨_, List.getElem?_eq_getElem hlt⟩
                obtain ⟨g, rfl, hg, hat⟩ := askAtD HRW.out hx
                have x0 := hat.p
                have hp6 := mem_ps6.1 (live_mem (HI.out.bas.q x (List.mem_of_getElem? hx)).1.l)
                obtain ⟨p, hpe⟩ : ∃ p : Nat, x.p = p := ⟨x.p.toNat, by omega⟩
                have hp : p < 6 := by omega
                have hp' : (p : Int) < 6 := by omega
                have hc := HSX.out.cell hp
                rw [hpe] at x0
                have HX := Hid.mk hx
                have HPE := Hid.mk hpe
                clear hat hx hpe hp6
                by_cases hst : (p : Int) ∈ t.stuck
                · rw [decide_eq_true hst] at hc
                  have HN := Hid.mk (HL.out.hit HX.out (by rw [HPE.out]; exact hst))
                  clear hst
                  go_wp2
                  go_round
                  case rel => exact ⟨n + 1, n, by go_num, by omega, rfl, HN.out⟩
                  case measure => simp [intOf]; omega
                · rw [decide_eq_false hst] at hc
                  have HN := Hid.mk (HL.out.on HX.out (by rw [HPE.out]; exact hst))
                  clear hst
                  go_wp2
                  go_round
                  case rel => exact ⟨n + 1, f, by go_num, by omega, rfl, HN.out⟩
                  case measure => simp [intOf]; omega
              · obtain rfl : n = t.Q.length := by omega
                rcases HL.out.done with ⟨rfl, hla⟩ | ⟨i, x, rfl, hx, hla⟩
                · have HTE := Hid.mk (DS.settle_end HFR.out hla)
                  clear hla
                  go_wp2
                  go_ret
                  have hst := HI.out.st
                  rw [HTE.out] at hst
                  simp only [List.append_nil] at hst
                  rw [hst]
                  have hnn : e.n ≤ d.n + s.Q.length := by have := HI.out.n; omega
                  exact ⟨_, rfl, own_below HI.out.own HBW.out, ⟨e, ⟨.slice qa e.Q.length qc, HI.out.v.below HBW.out⟩, HI.out.sim, hnn⟩, HI.out.k.trans (KD.of_below HBW.out)⟩
                · have HTL := Hid.mk (DS.settle_last HFR.out hla hx)
                  have hil : i < t.Q.length := (List.getElem?_eq_some_iff.1 hx).1
                  have hil' : (i : Int) < (t.Q.length : Int) := by omega
                  have hi0 : ¬ ((i : Int) < 0) := by omega
                  obtain ⟨g, rfl, hg, hat⟩ := askAtD HRW.out hx
                  have x0 := hat.p
                  have HX := Hid.mk hx
                  have hDs : D.length ≤ 100 := by omega
                  have HOD := Hid.mk (own_below HI.out.own HBW.out)
                  have HVW := Hid.mk (HI.out.v.below HBW.out)
                  obtain ⟨da, dc, rfl⟩ := own_form HOD.out
                  clear hla hat hx
                  go_wp2_with (first
                    | (at_builtin; refine wpList_snoc rfl _ _ _ rfl Tryz.underlying32 Tryz.infoDone rfl (by decide) (by decide) rfl HOD.out (by omega) (by omega) (cs := #[.int .i64 x.p, .int .i64 10]) rfl (by simp) rfl (by simp [Value.oneCell']) ?_; intro v4 w4 ho4 hb4 hz4 hold4; have hv4 := HVW.out.app HOD.out hold4; have HLV := Hid.mk (dLeave_any hv4 (by rw [HQE.out]; have := HQ6.out t HI.out.bas; omega) (fun b hb => HPP.out b (by omega)) (i := i) (by rw [HQE.out]; exact hil)); unfold dkPtr at HLV; have HV4 := Hid.mk hv4; have HO4 := Hid.mk ho4; have HB4 := Hid.mk hb4; have HOL := Hid.mk hold4; clear ho4 hb4 hold4 hv4)
                    | (go_at_call 170; refine HLV.out.mono ?_; rintro r w5 ⟨rfl, ⟨qv5, hv5⟩, hk5⟩; have HV5 := Hid.mk hv5; have HK5 := Hid.mk hk5; clear hv5 hk5))
                  go_roundg (t.leave i).Q.length
                  case measure => have := DS.leave_len HX.out; omega
                  case rel =>
                    refine ⟨t.leave i, _, D ++ [⟨x.p, 10⟩], qv5, rfl, ?_, HV5.out, HI.out.sim.leave i, HI.out.bas.leave i, ?_, ?_, ?_, ?_, HI.out.N⟩
                    · have := DS.leave_len HX.out
                      simp only [List.length_append, List.length_cons, List.length_nil]
                      omega
                    · have hs := HI.out.st
                      rw [HTL.out] at hs
                      rw [hs]
                      simp
                    · rw [List.length_append, flatD_snoc]
                      exact HK5.out.row HV4.out HO4.out (by decide) (by decide)
                    · exact (((HI.out.k.trans (KD.of_below HBW.out)).belowB HB4.out)).trans HK5.out
                    · have := DS.leave_len HX.out
                      have := HI.out.n
                      show e.n + ((t.leave i).Q.length : Int) ≤ _
                      omega
          · have HTF := Hid.mk (DS.settle_free hfr ha)
            obtain ⟨hb1, hak⟩ := HI.out.bas.freed ha hw
            have HBF := Hid.mk hb1
            have HAK := Hid.mk hak
            have hil : i < t.Q.length := (List.getElem?_eq_some_iff.1 ha).1
            have hil' : (i : Int) < (t.Q.length : Int) := by omega
            have hi0 : (0 : Int) ≤ (i : Int) := by omega
            obtain ⟨g, rfl, hg, hat⟩ := askAtD (HR.out wr HB.out) ha
            obtain ⟨x0, x1, x2, x3, x4, x5, x6⟩ := hat
            have HA := Hid.mk ha
            have hDs : D.length ≤ 100 := by omega
            have hbX := HB.out.alloc hszq a.boxD
            have HBX := Hid.mk hbX
            have HVX := Hid.mk (HI.out.v.below hbX)
            have HLV := Hid.mk (dLeave_any (HI.out.v.below hbX) (by rw [HQE.out]; have := HQ6.out t HI.out.bas; omega) (fun b hb => HPP.out b (by have := hbX.size; omega)) (i := i) (by rw [HQE.out]; exact hil))
            have HNB := Hid.mk (heap_alloc_new wr a.boxD)
            have hsl := HI.out.sim.leave i
            have HSL := Hid.mk hsl
            have HTK := Hid.mk (hsl.take (HI.out.bas.leave i) hak)
            have HDT := Hid.mk (DK.take_n {e with Q := e.Q.eraseIdx i} a)
            have HSM2 := Hid.mk (hsl.sm (HI.out.bas.leave i) (by show t.N ≤ _; rw [HI.out.N]; exact HNN.out) (by show e.n ≤ _; have h1 := HI.out.n; have h2 := HM.out; omega))
            have HOV : Hid (∀ b, ov.ownBlock = some b → b < wr.heap.size) := fun b hb => Nat.lt_of_lt_of_le (own_lt HI.out.v.o hb) hszq
            unfold dkPtr at HLV
            unfold Ask.boxD at HLV HBX HVX HNB
            clear hbX hsl hb1 hak ha hw hfr
            obtain ⟨da, dc, hde⟩ := own_form HI.out.own
            subst hde
            have HTA := Hid.mk (fun (W : World) qq (hv : DV W db P {e with Q := e.Q.eraseIdx i} ov qq) => dTake_any hv HSM2.out a HAK.out.file (live_mem HAK.out.l) (fun hw => by
              obtain ⟨c, _, hf⟩ := DS.has_iff.1 (HAK.out.wh hw).1
              have := (HI.out.bas.f _ _ _ hf).2.2.2
              show a.o < e.O.length
              rw [HI.out.sim.N]; exact this) HAK.out.rg)
            unfold dkPtr dAskV at HTA
            generalize hTT : DK.take {e with Q := e.Q.eraseIdx i} a = TT at *
            obtain ⟨te, tr⟩ := TT
            simp only at HTA HDT HTK
            go_wp2_with (first
              | (go_at_call 170; refine HLV.out.mono ?_; rintro r w2 ⟨rfl, ⟨qv2, hv2⟩, hk2⟩; have hz2 := hk2.size; simp at hz2; have hbx2 := (hk2.block wr.heap.size (by simp) (by omega) (fun e9 => by have := HOV.out _ e9; omega)).trans HNB.out; have y0 : w2.cell? ⟨wr.heap.size, 0, none⟩ = some (.int .i64 a.p) := (by simp only [World.cell?, hbx2]; rfl); have y1 : w2.cell? ⟨wr.heap.size, 1, none⟩ = some (.int .i64 a.k) := (by simp only [World.cell?, hbx2]; rfl); have y2 : w2.cell? ⟨wr.heap.size, 2, none⟩ = some (.int .i64 a.file) := (by simp only [World.cell?, hbx2]; rfl); have y3 : w2.cell? ⟨wr.heap.size, 3, none⟩ = some (.bool a.whole) := (by simp only [World.cell?, hbx2]; rfl); have y4 : w2.cell? ⟨wr.heap.size, 4, none⟩ = some (.int .i64 a.o) := (by simp only [World.cell?, hbx2]; rfl); have y5 : w2.cell? ⟨wr.heap.size, 5, none⟩ = some (.int .i64 a.f) := (by simp only [World.cell?, hbx2]; rfl); have y6 : w2.cell? ⟨wr.heap.size, 6, none⟩ = some (.int .i64 a.t) := (by simp only [World.cell?, hbx2]; rfl); have HX2 := Hid.mk hbx2; have HV2 := Hid.mk hv2; have HK2 := Hid.mk hk2; clear hv2 hk2 hbx2)
              | (go_at_call 171; refine (HTA.out w2 qv2 HV2.out).mono ?_; rintro r w3 ⟨rfl, hv3, hk3⟩; have hz3 := hk3.size; have hbx3 := (hk3.block wr.heap.size (by omega) (by omega) (fun e9 => by have := HOV.out _ e9; omega)).trans HX2.out; have z0 : w3.cell? ⟨wr.heap.size, 0, none⟩ = some (.int .i64 a.p) := (by simp only [World.cell?, hbx3]; rfl); have HOD : Hid (w3.ownsRow w.heap.size 57 2 (.slice da D.length dc) D.length (flatD D)) := hk3.row HV2.out (HK2.out.row HVX.out (own_below HI.out.own HBX.out) (by decide) (by decide)) (by decide) (by decide); have HV3 := Hid.mk hv3; have HK3 := Hid.mk hk3; clear hv3 hk3 hbx3)
              | (at_builtin; refine wpList_snoc rfl _ _ _ rfl Tryz.underlying32 Tryz.infoDone rfl (by decide) (by decide) rfl HOD.out (by omega) (by omega) (cs := #[.int .i64 a.p, .int .i64 tr]) rfl (by simp) rfl (by simp [Value.oneCell']) ?_; intro v4 w4 ho4 hb4 hz4 hold4; have HV4 := Hid.mk (HV3.out.app HOD.out hold4); have HO4 := Hid.mk ho4; have HB4 := Hid.mk hb4; clear ho4 hb4 hold4))
            go_roundg ((t.leave i).take a).1.Q.length
            case measure => have := DS.leave_len HA.out; rw [DS.take_Q]; omega
            case rel =>
              have hlv := DS.leave_len HA.out
              refine ⟨((t.leave i).take a).1, te, D ++ [⟨a.p, tr⟩], qv2, rfl, ?_, HV4.out, HTK.out.1, HBF.out, ?_, ?_, ?_, ?_, ?_⟩
              · rw [DS.take_Q]
                simp only [List.length_append, List.length_cons, List.length_nil]
                omega
              · have hs := HI.out.st
                rw [HTF.out] at hs
                rw [hs, HTK.out.2]
                simp
              · rw [List.length_append, flatD_snoc]
                exact HO4.out
              · exact ((((HI.out.k.trans (KD.of_below HBX.out)).trans HK2.out).trans HK3.out).belowB HB4.out)
              · rw [DS.take_Q]
                have h1 := HDT.out.1
                have h2 := HI.out.n
                omega
              · rw [DS.take_N]; exact HI.out.N
        · obtain ⟨i, rfl⟩ : ∃ i, k = i + 1 := ⟨k - 1, by omega⟩
          obtain rfl : j = (i : Int) := by omega
          clear hj
          obtain ⟨x, hx⟩ : ∃ x, t.Q[i]? = some x := ⟨_, List.getElem?_eq_getElem (by omega)⟩
          obtain ⟨g, rfl, hg, hat⟩ := askAtD (HR.out wr HB.out) hx
          obtain ⟨x0, x1, x2, x3, x4, x5, x6⟩ := hat
          have hil : (i : Int) < (t.Q.length : Int) := by omega
          have HCW := Hid.mk (HWY.out wr HB.out i x hx)
          have HWX := Hid.mk (HWN.out i x hx)
          unfold dkPtr dAskV at HCW
          have HX := Hid.mk hx
          clear hx
          have hle : (e.way x (t.Q.take i)).length ≤ 10000020 := HLN.out x i
          generalize e.way x (t.Q.take i) = L at *
          by_cases hL : L.length = 0
          · have HFN := Hid.mk (HF.out.free HX.out (HWX.out.1 (List.eq_nil_of_length_eq_zero hL)))
            have hL' : (L.length : Int) = 0 := by omega
            go_wp2_with (go_at_call 169; refine HCW.out.mono ?_; rintro r w1 ⟨v1, us, rfl, hw1, hb1⟩; obtain ⟨ua, uc, rfl⟩ := own_form hw1.own; have HB1 := Hid.mk hb1; clear hw1 hb1)
            go_roundw
            case rel => exact ⟨i, (i : Int) - 1, (i : Int), by go_num, rfl, by omega, rfl, HFN.out, HB.out.trans (HB1.out.mono hszq)⟩
            case measure => simp [intOf]
          · have HFN := Hid.mk (HF.out.on HX.out (fun hn => hL (by rw [HWX.out.2 hn]; rfl)))
            have hL' : ¬ ((L.length : Int) = 0) := by omega
            go_wp2_with (go_at_call 169; refine HCW.out.mono ?_; rintro r w1 ⟨v1, us, rfl, hw1, hb1⟩; obtain ⟨ua, uc, rfl⟩ := own_form hw1.own; have HB1 := Hid.mk hb1; clear hw1 hb1)
            go_roundw
            case rel => exact ⟨i, (i : Int) - 1, f, by go_num, rfl, by omega, rfl, HFN.out, HB.out.trans (HB1.out.mono hszq)⟩
            case measure => simp [intOf]
end Go.Proofs.YtaicdjhblbobbaaGreat
