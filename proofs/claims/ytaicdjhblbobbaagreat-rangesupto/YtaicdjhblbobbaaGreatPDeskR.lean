/- Contracts of the document's answer, on: which kinds bite, ranges, what is dropped, runs. -/
import Derived.Test.YtaicdjhblbobbaaGreatPDeskA
import Derived.Test.YtaicdjhblbobbaaGreatPKCall
namespace Go.Proofs.YtaicdjhblbobbaaGreat
open Go.RowKit Go.Lib

set_option maxHeartbeats 2000000 in
set_option maxRecDepth 100000 in
theorem dBites_any (a b : Int) (w : World) : Calls Tryz.prog 168 #[.int .i64 a, .int .i64 b] w fun e w' => e = .returned (.bool (biteB a b)) ∧ w' = w := by
  have HD := Hid.mk (show biteB a b = if a = 0 ∨ b = 0 then false else decide (a = 2 ∨ b = 2) from rfl)
  generalize biteB a b = r at *
  by_cases h0 : a = 0
  · subst h0
    go_enter Tryz.func168, Tryz.ntmps168
    go_wp2
    go_ret
    exact ⟨ret_bool (by rw [HD.out]; simp), rfl⟩
  · by_cases h1 : b = 0
    · subst h1
      go_enter Tryz.func168, Tryz.ntmps168
      go_wp2
      go_ret
      exact ⟨ret_bool (by rw [HD.out]; simp), rfl⟩
    · by_cases h2 : a = 2
      · subst h2
        go_enter Tryz.func168, Tryz.ntmps168
        go_wp2
        go_ret
        exact ⟨ret_bool (by rw [HD.out]; simp [h1]), rfl⟩
      · go_enter Tryz.func168, Tryz.ntmps168
        go_wp2
        go_ret
        exact ⟨ret_bool (by rw [HD.out, if_neg (by simp [h0, h1]), Bool.eq_iff_iff]; simp [h0, h1]), rfl⟩

set_option maxHeartbeats 2000000 in
set_option maxRecDepth 100000 in
theorem dDrop_any {w : World} {db : Nat} {d : DK} {ov qv : Value} (h : DeskB w db d ov qv) {p f : Nat} (hp : p < 6) (hf : f < 3) :
    Calls Tryz.prog 141 #[dkPtr db, .int .i64 p, .int .i64 f] w fun e w' => e = .returned (.tuple #[]) ∧ DeskB w' db {d with C := dropC d.C p f} ov qv ∧ Kp [db] w w' := by
  have HK := Hid.mk h
  clear h
  unfold dkPtr
  have hp' : (p : Int) < 6 := by omega
  have hf' : (f : Int) < 3 := by omega
  go_enter Tryz.func141, Tryz.ntmps141
  go_wp2
  go_loopw [6] (fun s6 wr => ∃ n : Nat, s6 = .int .i64 n ∧ n ≤ 64 ∧ Hid (DeskB wr db {d with C := fun g i q => if g = f ∧ i < n ∧ q = p then 0 else d.C g i q} ov qv) ∧ Hid (Kp [db] w wr)) (fun s6 _ => 64 - (intOf s6).toNat)
  case atStart =>
    refine ⟨0, rfl, Nat.zero_le _, ?_, Kp.refl _ _⟩
    have e : (fun g i q => if g = f ∧ i < 0 ∧ q = p then 0 else d.C g i q) = d.C := by funext g i q; rw [if_neg (by omega)]
    show DeskB w db _ ov qv
    rw [e]; exact HK.out
  case round =>
    obtain ⟨n, rfl, hn, HB, HP⟩ := hrel
    by_cases hlt : n < 64
    · have hlt' : (n : Int) < 64 := by omega
      have hc := HB.out.cC hf hlt hp
      have hfr := HB.out.frozen (37 + f * 384 + n * 6 + p)
      go_wp2
      go_roundw
      case rel =>
        refine ⟨n + 1, by go_num, by omega, ?_, HP.out.trans (Kp.setCell (by simp))⟩
        have hx := HB.out.setC hf hlt hp 0
        have e : (fun g j q => if g = f ∧ j = n ∧ q = p then (0 : Int) else if g = f ∧ j < n ∧ q = p then 0 else d.C g j q) = fun g j q => if g = f ∧ j < n + 1 ∧ q = p then 0 else d.C g j q := by
          funext g j q
          by_cases h1 : g = f ∧ j = n ∧ q = p
          · rw [if_pos h1, if_pos (by omega)]
          · by_cases h2 : g = f ∧ j < n ∧ q = p
            · rw [if_neg h1, if_pos h2, if_pos (by omega)]
            · rw [if_neg h1, if_neg h2, if_neg (by omega)]
        simp only at hx
        rw [e] at hx
        exact hx
      case measure => simp [intOf]; omega
    · obtain rfl : n = 64 := by omega
      go_wp2
      go_end0
      refine ⟨rfl, ?_, HP.out⟩
      obtain ⟨X, h1, h2⟩ := HB.out
      refine ⟨X, h1, h2.size, h2.A, h2.G, h2.O, fun g i q hg hi hq => ?_, h2.Q, h2.n⟩
      have := h2.C g i q hg hi hq
      rw [this]
      show some (Value.int _ (if _ then _ else _)) = some (Value.int _ (dropC d.C p f g i q))
      unfold dropC
      by_cases h3 : g = f ∧ q = p
      · rw [if_pos ⟨h3.1, hi, h3.2⟩, if_pos h3]
      · rw [if_neg (fun h4 => h3 ⟨h4.1, h4.2.2⟩), if_neg h3]

def runsQ (C : Nat → Nat → Int) (i q : Nat) : List Rn := (List.range q).filterMap fun q => DK.runAt C i q
def runsN (C : Nat → Nat → Int) (n : Nat) : List Rn := (List.range n).flatMap fun i => runsQ C i 6
theorem runsQ_len (C : Nat → Nat → Int) (i q : Nat) : (runsQ C i q).length ≤ q := by
  unfold runsQ
  exact Nat.le_trans (List.length_filterMap_le _ _) (by simp)
theorem runsQ_snoc (C : Nat → Nat → Int) (i q : Nat) : runsQ C i (q + 1) = runsQ C i q ++ (DK.runAt C i q).toList := by
  unfold runsQ
  rw [List.range_succ, List.filterMap_append]
  congr 1
theorem runsN_snoc (C : Nat → Nat → Int) (n : Nat) : runsN C (n + 1) = runsN C n ++ runsQ C n 6 := by
  unfold runsN
  rw [List.range_succ, List.flatMap_append]
  simp
theorem runsN_len (C : Nat → Nat → Int) : ∀ n, (runsN C n).length ≤ 6 * n
  | 0 => by simp [runsN]
  | n + 1 => by
    rw [runsN_snoc, List.length_append]
    have := runsN_len C n
    have := runsQ_len C n 6
    omega
theorem stretch_stop {c : Nat → Int} {k : Int} {n m : Nat} (h : ¬ (m + 1 < 64 ∧ c (m + 1) = k)) : stretch c k n m = m := by
  cases n with
  | zero => rfl
  | succ n => unfold stretch; rw [if_neg h]
theorem stretch_on {c : Nat → Int} {k : Int} {n m : Nat} (hn : 64 ≤ m + n + 1) (h : m + 1 < 64 ∧ c (m + 1) = k) : stretch c k n m = stretch c k (n - 1) (m + 1) := by
  cases n with
  | zero => omega
  | succ n => rw [show n + 1 - 1 = n from rfl, stretch, if_pos h]

set_option maxHeartbeats 8000000 in
set_option maxRecDepth 100000 in
theorem dRuns_any {w : World} {db : Nat} {P : Nat → Prop} {d : DK} {ov qv : Value} (h : DV w db P d ov qv) (f : Int) :
    Calls Tryz.prog 91 #[dkPtr db, .int .i64 f] w fun e w' => ∃ v', e = .returned v' ∧ w'.ownsRow w.heap.size 41 4 v' (d.runs f).length (flatR (d.runs f)) ∧ Below w.heap.size w w' := by
  have HD := Hid.mk (show d.runs f = if fileB f then runsN (d.C f.toNat) 64 else [] from rfl)
  have HC := Hid.mk (fun (W : World) (hW : Below w.heap.size w W) f i q hf hi hq => (h.below hW).k.cC (f := f) (i := i) (p := q) hf hi hq)
  clear h
  unfold dkPtr
  generalize d.runs f = R at *
  by_cases hf : 0 ≤ f ∧ f < 3
  · obtain ⟨g, rfl⟩ : ∃ g : Nat, f = (g : Int) := ⟨f.toNat, by omega⟩
    have hg : g < 3 := by omega
    have hg' : (g : Int) < 3 := by omega
    have hg0 : ¬ ((g : Int) < 0) := by omega
    have hg3 : ¬ (3 ≤ (g : Int)) := by omega
    have HD2 := Hid.mk (show R = runsN (d.C g) 64 by rw [HD.out, if_pos (by unfold fileB; simp; omega)]; rfl)
    have HC2 := Hid.mk (fun (W : World) (hW : Below w.heap.size w W) i q hi hq => HC.out W hW g i q hg hi hq)
    clear HD HC hf
    generalize d.C g = C at *
    rw [HD2.out]
    clear HD2
    go_enter Tryz.func91, Tryz.ntmps91
    go_wp2
    go_loopw [5, 6] (fun s5 s6 wr => ∃ n : Nat, s6 = .int .i64 n ∧ n ≤ 64 ∧ Hid (wr.ownsRow w.heap.size 41 4 s5 (runsN C n).length (flatR (runsN C n))) ∧ Hid (Below w.heap.size w wr)) (fun _ s6 _ => 64 - (intOf s6).toNat)
    case atStart => exact ⟨0, rfl, Nat.zero_le _, World.ownsRow_nil _ _ _ _, Below.refl _ _⟩
    case round =>
      obtain ⟨n, rfl, hn, HO, HB⟩ := hrel
      by_cases hlt : n < 64
      · have hlt' : (n : Int) < 64 := by omega
        have HN := Hid.mk (runsN_len C n)
        have HS := Hid.mk (runsN_snoc C n)
        generalize runsN C n = L at *
        go_wp2
        go_loopw [5, 7] (fun s5 s7 wr => ∃ q : Nat, s7 = .int .i64 q ∧ q ≤ 6 ∧ Hid (wr.ownsRow w.heap.size 41 4 s5 (L ++ runsQ C n q).length (flatR (L ++ runsQ C n q))) ∧ Hid (Below w.heap.size w wr)) (fun _ s7 _ => 6 - (intOf s7).toNat)
        case atStart =>
          refine ⟨0, rfl, Nat.zero_le _, ?_, HB.out⟩
          show World.ownsRow _ _ _ _ _ (L ++ []).length (flatR (L ++ []))
          rw [List.append_nil]; exact HO.out
        case round =>
          clear HO HB
          obtain ⟨q, rfl, hq, HO, HB⟩ := hrel
          have hsz : w.heap.size ≤ wr.heap.size := HB.out.size
          by_cases hq6 : q < 6
          · have hq6' : (q : Int) < 6 := by omega
            have hc := HC2.out wr HB.out n q hlt hq6
            have HQ := Hid.mk (runsQ_snoc C n q)
            have HQL := Hid.mk (runsQ_len C n q)
            by_cases hk : C n q = 0
            · have HR := Hid.mk (show DK.runAt C n q = none by unfold DK.runAt; rw [if_pos (Or.inl hk)])
              rw [hk] at hc
              clear hk
              go_wp2
              go_roundw
              case rel =>
                refine ⟨q + 1, by go_num, by omega, ?_, HB.out⟩
                rw [HQ.out, HR.out]
                show World.ownsRow _ _ _ _ _ (L ++ (runsQ C n q ++ [])).length (flatR (L ++ (runsQ C n q ++ [])))
                rw [List.append_nil]; exact HO.out
              case measure => simp [intOf]; omega
            · have HK := Hid.mk hk
              have hk' : (C n q == 0) = false := by simpa using hk
              have way : (∃ m, n = m + 1 ∧ C m q = C n q) ∨ (∃ m, n = m + 1 ∧ C m q ≠ C n q) ∨ n = 0 := by
                cases n with
                | zero => exact Or.inr (Or.inr rfl)
                | succ m =>
                  by_cases e : C m q = C (m + 1) q
                  · exact Or.inl ⟨m, rfl, e⟩
                  · exact Or.inr (Or.inl ⟨m, rfl, e⟩)
              rcases way with ⟨m, rfl, e⟩ | way
              · have hc2 := HC2.out wr HB.out m q (by omega) hq6
                have HR := Hid.mk (show DK.runAt C (m + 1) q = none by unfold DK.runAt; rw [if_pos (Or.inr ⟨by omega, e⟩)])
                rw [e] at hc2
                go_wp2
                go_roundw
                case rel =>
                  refine ⟨q + 1, by go_num, by omega, ?_, HB.out⟩
                  rw [HQ.out, HR.out]
                  show World.ownsRow _ _ _ _ _ (L ++ (runsQ C (m + 1) q ++ [])).length (flatR (L ++ (runsQ C (m + 1) q ++ [])))
                  rw [List.append_nil]; exact HO.out
                case measure => simp [intOf]; omega
              · have HR := Hid.mk (show DK.runAt C n q = some ⟨q, C n q, n, (stretch (fun j => C j q) (C n q) 64 n : Nat)⟩ by
                  unfold DK.runAt
                  rw [if_neg]
                  rintro (e | ⟨e1, e2⟩)
                  · exact HK.out e
                  · rcases way with ⟨m, rfl, e⟩ | rfl
                    · exact e e2
                    · omega)
                rcases way with ⟨m, rfl, e⟩ | hz
                · have hc2 := HC2.out wr HB.out m q (by omega) hq6
                  have e' : (C m q == C (m + 1) q) = false := by simpa using e
                  generalize hst : stretch (fun j => C j q) (C (m + 1) q) 64 (m + 1) = st at *
                  have HST := Hid.mk hst
                  clear hst
                  have HCQ := Hid.mk (fun i hi => HC2.out wr HB.out i q hi hq6)
                  generalize hkk : C (m + 1) q = kk at *
                  have HKK := Hid.mk hkk
                  clear hkk
                  have HLEN : (L ++ runsQ C (m + 1) q).length ≤ 1000 := by rw [List.length_append]; have := HN.out; have := HQL.out; omega
                  generalize hLL : L ++ runsQ C (m + 1) q = LL at *
                  have HLL := Hid.mk hLL
                  clear hLL
                  obtain ⟨ua, uc, rfl⟩ := own_form HO.out
                  go_wp2
                  go_loop [9] (fun s9 => ∃ t : Nat, s9 = .int .i64 t ∧ t < 64 ∧ Hid (∃ fu, 64 ≤ t + fu + 1 ∧ stretch (fun j => C j q) kk fu t = st)) (fun s9 => 64 - (intOf s9).toNat)
                  case atStart => exact ⟨(m + 1), rfl, hlt, 64, by omega, HST.out⟩
                  case round =>
                    obtain ⟨t, rfl, ht, HF⟩ := hrel
                    by_cases h64 : t + 1 < 64
                    · have hct := HCQ.out (t + 1) h64
                      have h64' : (t : Int) + 1 < 64 := by omega
                      by_cases he : C (t + 1) q = kk
                      · have HE := Hid.mk he
                        rw [he] at hct
                        clear he
                        go_wp2
                        go_round
                        case rel =>
                          refine ⟨t + 1, by go_num, h64, ?_⟩
                          obtain ⟨fu, f1, f2⟩ := HF.out
                          exact ⟨fu - 1, by omega, by rw [← f2, stretch_on f1 ⟨h64, HE.out⟩]⟩
                        case measure => simp [intOf]; omega
                      · have he' : (C (t + 1) q == kk) = false := by simpa using he
                        have HTT := Hid.mk (show t = st by obtain ⟨fu, _, f2⟩ := HF.out; rw [← f2, stretch_stop (fun h => he h.2)])
                        go_wp2_with (at_builtin; refine wpList_snoc rfl _ _ _ rfl Tryz.underlying38 Tryz.infoApiRun rfl (by decide) (by decide) rfl HO.out (by omega) (by omega) (cs := #[.int .i64 (q : Int), .int .i64 kk, .int .i64 (((m + 1) : Nat) : Int), .int .i64 (t : Int)]) rfl (by simp) rfl (by simp [Value.oneCell']) ?_; intro v2 w2 ho2 hb2 hz2 hold2; have HO2 := Hid.mk ho2; have HB2 := Hid.mk hb2; clear ho2 hb2 hold2)
                        go_roundw
                        case rel =>
                          refine ⟨q + 1, by go_num, by omega, ?_, HB.out.trans HB2.out⟩
                          have e1 : L ++ runsQ C (m + 1) (q + 1) = LL ++ [⟨q, kk, ((m + 1) : Nat), t⟩] := by rw [HQ.out, HR.out, ← HTT.out, Option.toList_some, ← List.append_assoc, HLL.out]
                          have hx : World.ownsRow w2 w.heap.size 41 4 v2 (L ++ runsQ C (m + 1) (q + 1)).length (flatR (L ++ runsQ C (m + 1) (q + 1))) := by rw [e1, List.length_append, flatR_snoc]; exact HO2.out
                          rw [← List.length_append]; exact hx
                        case measure => simp [intOf]; omega
                    · have HTT := Hid.mk (show t = st by obtain ⟨fu, _, f2⟩ := HF.out; rw [← f2, stretch_stop (fun h => h64 h.1)])
                      have h64' : ¬ ((t : Int) + 1 < 64) := by omega
                      go_wp2_with (at_builtin; refine wpList_snoc rfl _ _ _ rfl Tryz.underlying38 Tryz.infoApiRun rfl (by decide) (by decide) rfl HO.out (by omega) (by omega) (cs := #[.int .i64 (q : Int), .int .i64 kk, .int .i64 (((m + 1) : Nat) : Int), .int .i64 (t : Int)]) rfl (by simp) rfl (by simp [Value.oneCell']) ?_; intro v2 w2 ho2 hb2 hz2 hold2; have HO2 := Hid.mk ho2; have HB2 := Hid.mk hb2; clear ho2 hb2 hold2)
                      go_roundw
                      case rel =>
                        refine ⟨q + 1, by go_num, by omega, ?_, HB.out.trans HB2.out⟩
                        have e1 : L ++ runsQ C (m + 1) (q + 1) = LL ++ [⟨q, kk, ((m + 1) : Nat), t⟩] := by rw [HQ.out, HR.out, ← HTT.out, Option.toList_some, ← List.append_assoc, HLL.out]
                        have hx : World.ownsRow w2 w.heap.size 41 4 v2 (L ++ runsQ C (m + 1) (q + 1)).length (flatR (L ++ runsQ C (m + 1) (q + 1))) := by rw [e1, List.length_append, flatR_snoc]; exact HO2.out
                        rw [← List.length_append]; exact hx
                      case measure => simp [intOf]; omega
                · have hz0 : ¬ (0 < (n : Int)) := by omega
                  clear hz
                  generalize hst : stretch (fun j => C j q) (C n q) 64 n = st at *
                  have HST := Hid.mk hst
                  clear hst
                  have HCQ := Hid.mk (fun i hi => HC2.out wr HB.out i q hi hq6)
                  generalize hkk : C n q = kk at *
                  have HKK := Hid.mk hkk
                  clear hkk
                  have HLEN : (L ++ runsQ C n q).length ≤ 1000 := by rw [List.length_append]; have := HN.out; have := HQL.out; omega
                  generalize hLL : L ++ runsQ C n q = LL at *
                  have HLL := Hid.mk hLL
                  clear hLL
                  obtain ⟨ua, uc, rfl⟩ := own_form HO.out
                  go_wp2
                  go_loop [9] (fun s9 => ∃ t : Nat, s9 = .int .i64 t ∧ t < 64 ∧ Hid (∃ fu, 64 ≤ t + fu + 1 ∧ stretch (fun j => C j q) kk fu t = st)) (fun s9 => 64 - (intOf s9).toNat)
                  case atStart => exact ⟨n, rfl, hlt, 64, by omega, HST.out⟩
                  case round =>
                    obtain ⟨t, rfl, ht, HF⟩ := hrel
                    by_cases h64 : t + 1 < 64
                    · have hct := HCQ.out (t + 1) h64
                      have h64' : (t : Int) + 1 < 64 := by omega
                      by_cases he : C (t + 1) q = kk
                      · have HE := Hid.mk he
                        rw [he] at hct
                        clear he
                        go_wp2
                        go_round
                        case rel =>
                          refine ⟨t + 1, by go_num, h64, ?_⟩
                          obtain ⟨fu, f1, f2⟩ := HF.out
                          exact ⟨fu - 1, by omega, by rw [← f2, stretch_on f1 ⟨h64, HE.out⟩]⟩
                        case measure => simp [intOf]; omega
                      · have he' : (C (t + 1) q == kk) = false := by simpa using he
                        have HTT := Hid.mk (show t = st by obtain ⟨fu, _, f2⟩ := HF.out; rw [← f2, stretch_stop (fun h => he h.2)])
                        go_wp2_with (at_builtin; refine wpList_snoc rfl _ _ _ rfl Tryz.underlying38 Tryz.infoApiRun rfl (by decide) (by decide) rfl HO.out (by omega) (by omega) (cs := #[.int .i64 (q : Int), .int .i64 kk, .int .i64 ((n : Nat) : Int), .int .i64 (t : Int)]) rfl (by simp) rfl (by simp [Value.oneCell']) ?_; intro v2 w2 ho2 hb2 hz2 hold2; have HO2 := Hid.mk ho2; have HB2 := Hid.mk hb2; clear ho2 hb2 hold2)
                        go_roundw
                        case rel =>
                          refine ⟨q + 1, by go_num, by omega, ?_, HB.out.trans HB2.out⟩
                          have e1 : L ++ runsQ C n (q + 1) = LL ++ [⟨q, kk, (n : Nat), t⟩] := by rw [HQ.out, HR.out, ← HTT.out, Option.toList_some, ← List.append_assoc, HLL.out]
                          have hx : World.ownsRow w2 w.heap.size 41 4 v2 (L ++ runsQ C n (q + 1)).length (flatR (L ++ runsQ C n (q + 1))) := by rw [e1, List.length_append, flatR_snoc]; exact HO2.out
                          exact hx
                        case measure => simp [intOf]; omega
                    · have HTT := Hid.mk (show t = st by obtain ⟨fu, _, f2⟩ := HF.out; rw [← f2, stretch_stop (fun h => h64 h.1)])
                      have h64' : ¬ ((t : Int) + 1 < 64) := by omega
                      go_wp2_with (at_builtin; refine wpList_snoc rfl _ _ _ rfl Tryz.underlying38 Tryz.infoApiRun rfl (by decide) (by decide) rfl HO.out (by omega) (by omega) (cs := #[.int .i64 (q : Int), .int .i64 kk, .int .i64 ((n : Nat) : Int), .int .i64 (t : Int)]) rfl (by simp) rfl (by simp [Value.oneCell']) ?_; intro v2 w2 ho2 hb2 hz2 hold2; have HO2 := Hid.mk ho2; have HB2 := Hid.mk hb2; clear ho2 hb2 hold2)
                      go_roundw
                      case rel =>
                        refine ⟨q + 1, by go_num, by omega, ?_, HB.out.trans HB2.out⟩
                        have e1 : L ++ runsQ C n (q + 1) = LL ++ [⟨q, kk, (n : Nat), t⟩] := by rw [HQ.out, HR.out, ← HTT.out, Option.toList_some, ← List.append_assoc, HLL.out]
                        have hx : World.ownsRow w2 w.heap.size 41 4 v2 (L ++ runsQ C n (q + 1)).length (flatR (L ++ runsQ C n (q + 1))) := by rw [e1, List.length_append, flatR_snoc]; exact HO2.out
                        exact hx
                      case measure => simp [intOf]; omega
          · obtain rfl : q = 6 := by omega
            go_wp2
            go_roundw
            case rel =>
              refine ⟨n + 1, by go_num, by omega, ?_, HB.out⟩
              rw [HS.out]; exact HO.out
            case measure => simp [intOf]; omega
      · obtain rfl : n = 64 := by omega
        go_wp2
        go_ret
        exact ⟨_, rfl, HO.out, HB.out⟩
  · have HD2 := Hid.mk (show R = [] by rw [HD.out, if_neg (by unfold fileB; simp; omega)])
    rw [HD2.out]
    clear HD HC HD2
    by_cases h0 : f < 0
    · go_enter Tryz.func91, Tryz.ntmps91
      go_wp2
      go_ret
      exact ⟨_, rfl, World.ownsRow_nil _ _ _ _, Below.refl _ _⟩
    · have h3 : 3 ≤ f := by omega
      go_enter Tryz.func91, Tryz.ntmps91
      go_wp2
      go_ret
      exact ⟨_, rfl, World.ownsRow_nil _ _ _ _, Below.refl _ _⟩
end Go.Proofs.YtaicdjhblbobbaaGreat
