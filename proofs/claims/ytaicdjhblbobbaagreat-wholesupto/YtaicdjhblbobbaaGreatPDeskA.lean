/- Contracts of the document's answer: who waits, who may call, descriptors, sharers. -/
import Derived.Test.YtaicdjhblbobbaaGreatPKFind
import Derived.Test.YtaicdjhblbobbaaGreatPQueueE
import Derived.Test.YtaicdjhblbobbaaGreatPRowB
import Derived.Lib.AppendZerosOnto
import Derived.Test.YtaicdjhblbobbaaGreatPWholesB
namespace Go.Proofs.YtaicdjhblbobbaaGreat
open Go.RowKit Go.Lib

/-- Plain bounds of the tables. -/
structure DK.Sm (d : DK) : Prop where
  g : ∀ p e, p < 6 → e < 5 → 0 ≤ d.G p e ∧ d.G p e ≤ d.O.length
  o : d.O.length ≤ 10000000
  q : d.Q.length ≤ 7
  qa : ∀ a, a ∈ d.Q → a.p ∈ ps6 ∧ a.file < 3 ∧ (a.whole = true → a.o < d.O.length) ∧ (a.whole = false → 0 ≤ a.f ∧ a.f ≤ a.t ∧ a.t ≤ 63)
  c : ∀ f i p, f < 3 → i < 64 → p < 6 → 0 ≤ d.C f i p ∧ d.C f i p ≤ 2
  n : 0 ≤ d.n ∧ d.n ≤ 100000000
theorem Sim.sm {s : DS} {d : DK} (h : Sim s d) (hs : s.Bas) (hN : s.N ≤ 10000000) (hn : d.n ≤ 100000000) : d.Sm where
  g := fun p e hp he => by
    rw [h.G p e hp he, h.N]
    cases hf : s.F p e with
    | none => simp only [fdI]; omega
    | some o => have := (hs.f _ _ _ hf).2.2.2; simp only [fdI]; omega
  o := by rw [h.N]; exact hN
  q := by rw [h.Q]; have := ones_le hs.qn (fun a ha => live_mem (hs.q a ha).1.l); omega
  qa := fun a ha => by
    rw [h.Q] at ha
    have hk := (hs.q a ha).1
    refine ⟨live_mem hk.l, hk.file, fun e => ?_, hk.rg⟩
    rw [h.N]
    obtain ⟨c, _, hf⟩ := DS.has_iff.1 (hk.wh e).1
    exact (hs.f _ _ _ hf).2.2.2
  c := fun f i p hf hi hp => by
    rw [h.C f i p hf hi hp]
    rcases cellR_cases (hs.wf f).ap p i with ⟨x, hx, _, _, _, e⟩ | ⟨_, e⟩
    · have := (hs.wf f).ok x hx
      unfold Rn.fine at this
      omega
    · omega
  n := ⟨h.n, hn⟩
def DK.waits (d : DK) (p : Int) : Bool := d.Q.any fun a => decide (a.p = p)
def DK.may (d : DK) (p : Int) : Int := if liveB d.A p = false then 1 else if d.waits p then 2 else 0
def DK.least (d : DK) (p : Nat) : Int := ((List.range 5).find? fun i => decide (d.G p i = 0)).elim (-1) fun i => (i : Int)
/-- The number of the opening of a descriptor, and the error. -/
def DK.fd (d : DK) (p e : Int) : Int × Int := if d.may p ≠ 0 then (0, d.may p) else if ¬ (0 ≤ e ∧ e < 5) ∨ d.G p.toNat e.toNat = 0 then (0, 5) else (d.G p.toNat e.toNat - 1, 0)
theorem Sim.waits {s : DS} {d : DK} (h : Sim s d) (p : Int) : d.waits p = s.waits p := by unfold DK.waits DS.waits; rw [h.Q]
theorem Sim.liveB {s : DS} {d : DK} (h : Sim s d) (p : Int) : Go.Proofs.YtaicdjhblbobbaaGreat.liveB d.A p = Go.Proofs.YtaicdjhblbobbaaGreat.liveB s.L p := by
  unfold Go.Proofs.YtaicdjhblbobbaaGreat.liveB
  by_cases hp : 0 ≤ p ∧ p < 6
  · rw [h.A p.toNat (by omega)]
  · by_cases h0 : 0 ≤ p
    · rw [show decide (p < 6) = false by simp; omega]; simp
    · rw [show decide (0 ≤ p) = false by simpa using h0]; simp
theorem Sim.may {s : DS} {d : DK} (h : Sim s d) (p : Int) : d.may p = s.may p := by unfold DK.may DS.may; rw [h.liveB, h.waits]
theorem may_range {s : DS} {p : Int} (h : s.may p = 0) : 0 ≤ p ∧ p < 6 := mem_ps6.1 (live_mem (DS.may_ok h).1)
theorem Sim.fd {s : DS} {d : DK} (h : Sim s d) (p e : Int) : d.fd p e = match s.find p e with | .error x => (0, x) | .ok o => ((o : Int), 0) := by
  unfold DK.fd DS.find
  rw [h.may]
  by_cases hm : s.may p = 0
  · have hp := may_range hm
    rw [hm]
    by_cases he : 0 ≤ e ∧ e < 5
    · have hg := h.G p.toNat e.toNat (by omega) (by omega)
      rw [show ((p.toNat : Nat) : Int) = p by omega, show ((e.toNat : Nat) : Int) = e by omega] at hg
      rw [hg]
      cases hf : s.F p e with
      | none => simp [fdI, he]
      | some o =>
        have : ¬ ((o : Int) + 1 = 0) := by omega
        simp [fdI, he, this]
    · simp [he]
  · simp [hm]
theorem find_range_none {g : Nat → Bool} {n : Nat} (h : ∀ j, j < n → g j = false) : (List.range n).find? g = none :=
  List.find?_eq_none.2 fun j hj => by simp [h j (List.mem_range.1 hj)]
theorem find_range_some {g : Nat → Bool} : ∀ {n a : Nat}, a < n → g a = true → (∀ j, j < a → g j = false) → (List.range n).find? g = some a := by
  intro n
  induction n with
  | zero => intro a h; omega
  | succ n ih =>
    intro a ha hg h
    rw [List.range_succ, List.find?_append]
    by_cases e : a = n
    · subst e
      rw [find_range_none h]
      simp [hg]
    · rw [ih (by omega) hg h]; rfl
theorem Sim.least {s : DS} {d : DK} (h : Sim s d) {p : Nat} (hp : p < 6) : d.least p = (s.least? p).getD (-1) := by
  have hg : ∀ i, i < 5 → (decide (d.G p i = 0)) = (s.F p i).isNone := fun i hi => by
    rw [h.G p i hp hi, Bool.eq_iff_iff, decide_eq_true_eq, fdI_zero, Option.isNone_iff_eq_none]
  have h0 := hg 0 (by omega)
  have h1 := hg 1 (by omega)
  have h2 := hg 2 (by omega)
  have h3 := hg 3 (by omega)
  have h4 := hg 4 (by omega)
  have hr : List.range 5 = [0, 1, 2, 3, 4] := rfl
  unfold DK.least DS.least? ds5
  rw [hr]
  simp only [List.find?_cons, List.find?_nil, h0, h1, h2, h3, h4]
  have e0 : ((0 : Nat) : Int) = 0 := rfl
  have e1 : ((1 : Nat) : Int) = 1 := rfl
  have e2 : ((2 : Nat) : Int) = 2 := rfl
  have e3 : ((3 : Nat) : Int) = 3 := rfl
  have e4 : ((4 : Nat) : Int) = 4 := rfl
  rw [e0, e1, e2, e3, e4]
  generalize (s.F p 0).isNone = b0
  generalize (s.F p 1).isNone = b1
  generalize (s.F p 2).isNone = b2
  generalize (s.F p 3).isNone = b3
  generalize (s.F p 4).isNone = b4
  cases b0 <;> cases b1 <;> cases b2 <;> cases b3 <;> cases b4 <;> rfl

set_option maxHeartbeats 2000000 in
set_option maxRecDepth 100000 in
theorem dWaits_any {w : World} {db : Nat} {P : Nat → Prop} {d : DK} {ov qv : Value} (h : DV w db P d ov qv) (hl : d.Q.length < 1000) (p : Int) :
    Calls Tryz.prog 166 #[dkPtr db, .int .i64 p] w fun e w' => e = .returned (.bool (d.waits p)) ∧ w' = w := by
  have hq := h.k.cQ
  have HW := Hid.mk (show d.waits p = d.Q.any fun a => decide (a.p = p) from rfl)
  rw [HW.out]
  clear HW
  obtain ⟨a, c, rfl⟩ := own_form h.q
  have HR := Hid.mk h.q
  clear h
  unfold dkPtr
  generalize d.Q = l at *
  go_enter Tryz.func166, Tryz.ntmps166
  go_wp2
  go_loop [5] (fun s5 => ∃ n : Nat, s5 = .int .i64 n ∧ n ≤ l.length ∧ Hid (∀ (j : Nat) x, j < n → l[j]? = some x → x.p ≠ p)) (fun s5 => l.length - (intOf s5).toNat)
  case atStart => exact ⟨0, rfl, Nat.zero_le _, fun j x hj => absurd hj (Nat.not_lt_zero _)⟩
  case round =>
    obtain ⟨n, rfl, hn, HF⟩ := hrel
    by_cases hlt : n < l.length
    · have hlt' : (n : Int) < (l.length : Int) := by omega
      obtain ⟨x, hx⟩ : ∃ x, l[n]? = some x := ⟨_, List.getElem?_eq_getElem hlt⟩
      obtain ⟨g, rfl, _, hat⟩ := askAtD HR.out hx
      have h0 := hat.p
      have HX := Hid.mk hx
      clear hat hx
      by_cases he : x.p = p
      · have HE := Hid.mk he
        rw [he] at h0
        clear he
        go_wp2
        go_ret
        refine ⟨ret_bool ?_, rfl⟩
        symm
        exact List.any_eq_true.2 ⟨x, List.mem_of_getElem? HX.out, by simpa using HE.out⟩
      · go_wp2
        go_round
        case rel =>
          refine ⟨n + 1, by go_num, by omega, fun j y hj hy => ?_⟩
          by_cases e : j = n
          · subst e; rw [HX.out] at hy; cases hy; exact he
          · exact HF.out j y (by omega) hy
        case measure => simp [intOf]; omega
    · obtain rfl : n = l.length := by omega
      go_wp2
      go_ret
      refine ⟨ret_bool ?_, rfl⟩
      symm
      rw [List.any_eq_false]
      intro x hx
      obtain ⟨j, hj⟩ := List.getElem?_of_mem hx
      have := HF.out j x (List.getElem?_eq_some_iff.1 hj).1 hj
      simpa using this

set_option maxHeartbeats 2000000 in
set_option maxRecDepth 100000 in
theorem dLeast_any {w : World} {db : Nat} {P : Nat → Prop} {d : DK} {ov qv : Value} (h : DV w db P d ov qv) (p : Nat) (hp : p < 6) :
    Calls Tryz.prog 137 #[dkPtr db, .int .i64 p] w fun e w' => e = .returned (.int .i64 (d.least p)) ∧ w' = w := by
  have HG := Hid.mk (fun e he => h.k.cG (p := p) (e := e) hp he)
  have HL := Hid.mk (show d.least p = ((List.range 5).find? fun i => decide (d.G p i = 0)).elim (-1) fun i => (i : Int) from rfl)
  clear h
  unfold dkPtr
  generalize d.least p = r at *
  generalize d.G p = G at *
  go_enter Tryz.func137, Tryz.ntmps137
  go_wp2
  go_loop [5] (fun s5 => ∃ n : Nat, s5 = .int .i64 n ∧ n ≤ 5 ∧ Hid (∀ j : Nat, j < n → G j ≠ 0)) (fun s5 => 5 - (intOf s5).toNat)
  case atStart => exact ⟨0, rfl, Nat.zero_le _, fun j hj => absurd hj (Nat.not_lt_zero _)⟩
  case round =>
    obtain ⟨n, rfl, hn, HF⟩ := hrel
    by_cases hlt : n < 5
    · have hlt' : (n : Int) < 5 := by omega
      have hc := HG.out n hlt
      by_cases he : G n = 0
      · have HE := Hid.mk he
        rw [he] at hc
        clear he
        go_wp2
        go_ret
        refine ⟨ret_val ?_, rfl⟩
        rw [HL.out, find_range_some (a := n) hlt (by simpa using HE.out) (fun j hj => by simpa using HF.out j hj)]
        rfl
      · have HE := Hid.mk he
        go_wp2
        go_round
        case rel =>
          refine ⟨n + 1, by go_num, by omega, fun j hj => ?_⟩
          by_cases e : j = n
          · subst e; exact HE.out
          · exact HF.out j (by omega)
        case measure => simp [intOf]; omega
    · obtain rfl : n = 5 := by omega
      go_wp2
      go_ret
      refine ⟨ret_val ?_, rfl⟩
      rw [HL.out, find_range_none (fun j hj => by simpa using HF.out j hj)]
      rfl

set_option maxHeartbeats 2000000 in
set_option maxRecDepth 100000 in
theorem dMay_any {w : World} {db : Nat} {P : Nat → Prop} {d : DK} {ov qv : Value} (h : DV w db P d ov qv) (hs : d.Sm) (p : Int) :
    Calls Tryz.prog 136 #[dkPtr db, .int .i64 p] w fun e w' => e = .returned (.int .i64 (d.may p)) ∧ w' = w := by
  have HW := Hid.mk (dWaits_any h (by have := hs.q; omega) p)
  have HA := Hid.mk (fun i hi => h.k.cA (i := i) hi)
  have HM := Hid.mk (show d.may p = if liveB d.A p = false then 1 else if d.waits p then 2 else 0 from rfl)
  clear h hs
  unfold dkPtr at *
  rw [HM.out]
  clear HM
  by_cases h0 : 0 ≤ p
  · by_cases h6 : p < 6
    · obtain ⟨i, rfl⟩ : ∃ i : Nat, p = (i : Int) := ⟨p.toNat, by omega⟩
      have hi : i < 6 := by omega
      have hc := HA.out i hi
      have HL := Hid.mk (show liveB d.A (i : Int) = d.A i by unfold liveB; simp [h6])
      rw [HL.out]
      generalize d.A i = b at *
      cases b
      · go_enter Tryz.func136, Tryz.ntmps136
        go_wp2
        go_ret
        exact ⟨rfl, rfl⟩
      · generalize d.waits i = b at *
        cases b
        · go_enter Tryz.func136, Tryz.ntmps136
          go_wp2_with (go_at_call 166; refine HW.out.mono ?_; rintro e w1 ⟨rfl, hw⟩; have hw2 := hw.symm; clear hw; subst hw2)
          go_ret
          exact ⟨rfl, rfl⟩
        · go_enter Tryz.func136, Tryz.ntmps136
          go_wp2_with (go_at_call 166; refine HW.out.mono ?_; rintro e w1 ⟨rfl, hw⟩; have hw2 := hw.symm; clear hw; subst hw2)
          go_ret
          exact ⟨rfl, rfl⟩
    · have HL := Hid.mk (show liveB d.A p = false by unfold liveB; simp [h6])
      rw [HL.out]
      go_enter Tryz.func136, Tryz.ntmps136
      go_wp2
      go_ret
      exact ⟨rfl, rfl⟩
  · have HL := Hid.mk (show liveB d.A p = false by unfold liveB; simp [h0])
    rw [HL.out]
    go_enter Tryz.func136, Tryz.ntmps136
    go_wp2
    go_ret
    exact ⟨rfl, rfl⟩

set_option maxHeartbeats 2000000 in
set_option maxRecDepth 100000 in
theorem dHas_any {w : World} {db : Nat} {P : Nat → Prop} {d : DK} {ov qv : Value} (h : DV w db P d ov qv) {p o : Nat} (hp : p < 6) (ho : o ≤ 1000000000) :
    Calls Tryz.prog 165 #[dkPtr db, .int .i64 p, .int .i64 o] w fun e w' => e = .returned (.bool (d.has p o)) ∧ w' = w := by
  have HG := Hid.mk (fun e he => h.k.cG (p := p) (e := e) hp he)
  have hA := h.k.cA hp
  have HD := Hid.mk (show d.has p o = (List.range 5).any fun i => d.A p && decide (d.G p i = (o : Int) + 1) from rfl)
  clear h
  unfold dkPtr
  generalize d.has p o = r at *
  generalize d.G p = G at *
  generalize d.A p = A at *
  have ho' : (o : Int) ≤ 1000000000 := by omega
  go_enter Tryz.func165, Tryz.ntmps165
  go_wp2
  go_loop [7] (fun s7 => ∃ n : Nat, s7 = .int .i64 n ∧ n ≤ 5 ∧ Hid (∀ j : Nat, j < n → (A && decide (G j = (o : Int) + 1)) = false)) (fun s7 => 5 - (intOf s7).toNat)
  case atStart => exact ⟨0, rfl, Nat.zero_le _, fun j hj => absurd hj (Nat.not_lt_zero _)⟩
  case round =>
    obtain ⟨n, rfl, hn, HF⟩ := hrel
    by_cases hlt : n < 5
    · have hlt' : (n : Int) < 5 := by omega
      have hc := HG.out n hlt
      cases A
      · go_wp2
        go_round
        case rel => exact ⟨n + 1, by go_num, by omega, fun j hj => rfl⟩
        case measure => simp [intOf]; omega
      · by_cases he : G n = (o : Int) + 1
        · have HE := Hid.mk he
          rw [he] at hc
          clear he
          go_wp2
          go_ret
          refine ⟨ret_bool ?_, rfl⟩
          rw [HD.out]
          symm
          exact List.any_eq_true.2 ⟨n, List.mem_range.2 hlt, by simpa using HE.out⟩
        · go_wp2
          go_round
          case rel =>
            refine ⟨n + 1, by go_num, by omega, fun j hj => ?_⟩
            by_cases e : j = n
            · subst e; simpa using he
            · exact HF.out j (by omega)
          case measure => simp [intOf]; omega
    · obtain rfl : n = 5 := by omega
      go_wp2
      go_ret
      refine ⟨ret_bool ?_, rfl⟩
      rw [HD.out]
      symm
      rw [List.any_eq_false]
      intro j hj
      have := HF.out j (List.mem_range.1 hj)
      simpa using this

set_option maxHeartbeats 4000000 in
set_option maxRecDepth 100000 in
theorem dSharers_any {w : World} {db : Nat} {P : Nat → Prop} {d : DK} {ov qv : Value} (h : DV w db P d ov qv) {o : Nat} (ho : o ≤ 1000000000) :
    Calls Tryz.prog 135 #[dkPtr db, .int .i64 o] w fun e w' => ∃ v', e = .returned v' ∧ w'.ownsRow w.heap.size 3 1 v' (d.sharers o).length (ints (d.sharers o)) ∧ Below w.heap.size w w' := by
  have HC := Hid.mk (fun (W : World) (hW : Below w.heap.size w W) (p : Nat) (hp : p < 6) => dHas_any (h.below hW) (p := p) (o := o) hp ho)
  have HU := Hid.mk (show d.sharers o = ps6.filter (fun p : Int => d.has p.toNat o) from rfl)
  have HH := Hid.mk (fun p : Nat => (rfl : d.has p o = d.has (p : Int).toNat o))
  rw [HU.out]
  clear h HU
  unfold dkPtr at *
  generalize hf : (fun p : Int => d.has p.toNat o) = f at *
  have HE := Hid.mk (fun p : Nat => show d.has p o = f (p : Int) by rw [← hf]; rfl)
  clear hf HH
  go_enter Tryz.func135, Tryz.ntmps135
  go_wp2
  go_loopw [5, 6] (fun s5 s6 wr => ∃ n : Nat, s6 = .int .i64 n ∧ n ≤ 6 ∧ Hid (wr.ownsRow w.heap.size 3 1 s5 ((ps6.take n).filter f).length (ints ((ps6.take n).filter f))) ∧ Hid (Below w.heap.size w wr)) (fun _ s6 _ => 6 - (intOf s6).toNat)
  case atStart => exact ⟨0, rfl, Nat.zero_le _, World.ownsRow_nil _ _ _ _, Below.refl _ _⟩
  case round =>
    obtain ⟨n, rfl, hn, HO, HB⟩ := hrel
    have hsz : w.heap.size ≤ wr.heap.size := HB.out.size
    by_cases hlt : n < 6
    · have hlt' : (n : Int) < 6 := by omega
      have HS := Hid.mk (users_snoc (f := f) hlt)
      have hln : ((ps6.take n).filter f).length ≤ n := Nat.le_trans (List.length_filter_le _ _) (by simp; omega)
      have HCC := Hid.mk (HC.out wr HB.out n hlt)
      rw [HE.out n] at HCC
      cases hbt : f n
      · have HT := Hid.mk hbt
        rw [hbt] at HCC
        clear hbt
        go_wp2_with (go_at_call 165; refine HCC.out.mono ?_; rintro e w1 ⟨rfl, hw⟩; have hw2 := hw.symm; clear hw; subst hw2)
        go_roundw
        case rel =>
          refine ⟨n + 1, by go_num, by omega, ?_, HB.out⟩
          rw [HS.out, HT.out]
          simp only [Bool.false_eq_true, if_false, List.append_nil]
          exact HO.out
        case measure => simp [intOf]; omega
      · have HT := Hid.mk hbt
        rw [hbt] at HCC
        clear hbt
        go_wp2_with (first
          | (go_at_call 165; refine HCC.out.mono ?_; rintro e w1 ⟨rfl, hw⟩; have hw2 := hw.symm; clear hw; subst hw2)
          | (at_builtin; refine wpList_snoc rfl _ _ _ rfl Tryz.underlying25 Tryz.infoInt rfl (by decide) (by decide) rfl HO.out (by omega) (by omega) (cs := #[.int .i64 (n : Int)]) rfl (by simp) rfl (by simp [Value.oneCell']) ?_; intro v2 w2 ho2 hb3 hz3 hold3; have HO2 := Hid.mk ho2; have HB3 := Hid.mk hb3; clear ho2 hb3 hold3))
        go_roundw
        case rel =>
          refine ⟨n + 1, by go_num, by omega, ?_, HB.out.trans HB3.out⟩
          rw [HS.out, HT.out]
          simp only [if_true, List.length_append, ints_snoc]
          exact HO2.out
        case measure => simp [intOf]; omega
    · obtain rfl : n = 6 := by omega
      have HO4 := Hid.mk (show wr.ownsRow w.heap.size 3 1 _ (ps6.filter f).length (ints (ps6.filter f)) from HO.out)
      go_wp2
      go_ret
      exact ⟨_, rfl, HO4.out, HB.out⟩

set_option maxHeartbeats 4000000 in
set_option maxRecDepth 100000 in
theorem dHeld_any {w : World} {db : Nat} {P : Nat → Prop} {d : DK} {ov qv : Value} (h : DV w db P d ov qv) (hs : d.Sm) {o : Nat} (ho : o < d.O.length) :
    Calls Tryz.prog 134 #[dkPtr db, .int .i64 o] w fun e w' => e = .returned (.bool (d.held o)) ∧ Below w.heap.size w w' := by
  have hol := hs.o
  have HS := Hid.mk (dSharers_any h (o := o) (by omega))
  have HD := Hid.mk (show d.held o = (!(d.sharers o).isEmpty && decide (d.kind o ≠ 0)) from rfl)
  obtain ⟨x, hx⟩ : ∃ x, d.O[o]? = some x := ⟨_, List.getElem?_eq_getElem ho⟩
  have HK := Hid.mk (DK.kind_set hx)
  obtain ⟨a, c, rfl⟩ := own_form h.o
  have HR := Hid.mk (fun (W : World) (hW : Below w.heap.size w W) => (h.below hW).o)
  have HQ := Hid.mk (fun (W : World) (hW : Below w.heap.size w W) => (h.below hW).k.cO)
  have ho' : (o : Int) < (d.O.length : Int) := by omega
  have hol' : (d.O.length : Int) ≤ 10000000 := by omega
  have HX := Hid.mk hx
  clear h hs hx
  unfold dkPtr at *
  generalize d.held o = r at *
  generalize d.sharers o = l at *
  generalize d.O = os at *
  generalize hz : l.length = z at *
  have HZ := Hid.mk (show l.isEmpty = decide (z = 0) by rw [← hz]; cases l <;> simp)
  clear hz
  by_cases h0 : z = 0
  · subst h0
    go_enter Tryz.func134, Tryz.ntmps134
    go_wp2_with (go_at_call 135; refine HS.out.mono ?_; rintro e w1 ⟨v1, rfl, ho1, hb1⟩; obtain ⟨a1, c1, rfl⟩ := own_form ho1; have HB1 := Hid.mk hb1; clear ho1 hb1)
    go_ret
    exact ⟨ret_bool (by rw [HD.out, HZ.out]; rfl), HB1.out⟩
  · have hz0 : (0 : Int) < (z : Int) := by omega
    by_cases hk : x.k = 0
    · go_enter Tryz.func134, Tryz.ntmps134
      go_wp2_with (go_at_call 135; refine HS.out.mono ?_; rintro e w1 ⟨v1, rfl, ho1, hb1⟩; obtain ⟨a1, c1, rfl⟩ := own_form ho1; obtain ⟨g, rfl, hg, _, hk1, _⟩ := ogAt (HR.out w1 hb1) HX.out; have hq1 := HQ.out w1 hb1; rw [hk] at hk1; have HB1 := Hid.mk hb1; clear ho1 hb1)
      go_ret
      exact ⟨ret_bool (by rw [HD.out, HZ.out, HK.out, hk]; simp), HB1.out⟩
    · go_enter Tryz.func134, Tryz.ntmps134
      go_wp2_with (go_at_call 135; refine HS.out.mono ?_; rintro e w1 ⟨v1, rfl, ho1, hb1⟩; obtain ⟨a1, c1, rfl⟩ := own_form ho1; obtain ⟨g, rfl, hg, _, hk1, _⟩ := ogAt (HR.out w1 hb1) HX.out; have hq1 := HQ.out w1 hb1; have HB1 := Hid.mk hb1; clear ho1 hb1)
      go_ret
      exact ⟨ret_bool (by rw [HD.out, HZ.out, HK.out]; simp [hk, h0]), HB1.out⟩

set_option maxHeartbeats 4000000 in
set_option maxRecDepth 100000 in
theorem dFd_any {w : World} {db : Nat} {P : Nat → Prop} {d : DK} {ov qv : Value} (h : DV w db P d ov qv) (hs : d.Sm) (p e : Int) :
    Calls Tryz.prog 138 #[dkPtr db, .int .i64 p, .int .i64 e] w fun r w' => r = .returned (.tuple #[.int .i64 (d.fd p e).1, .int .i64 (d.fd p e).2]) ∧ w' = w := by
  have HM := Hid.mk (dMay_any h hs p)
  have HG := Hid.mk (fun p e hp he => h.k.cG (p := p) (e := e) hp he)
  have HB := Hid.mk hs
  have HF := Hid.mk (show d.fd p e = if d.may p ≠ 0 then (0, d.may p) else if ¬ (0 ≤ e ∧ e < 5) ∨ d.G p.toNat e.toNat = 0 then (0, 5) else (d.G p.toNat e.toNat - 1, 0) from rfl)
  have HL := Hid.mk (show d.may p = 0 → 0 ≤ p ∧ p < 6 by
    unfold DK.may
    intro hm
    split at hm
    · cases hm
    · rename_i hl
      rw [Bool.not_eq_false] at hl
      exact mem_ps6.1 (live_mem hl))
  have HK := Hid.mk (show d.may p = 0 ∨ d.may p = 1 ∨ d.may p = 2 by unfold DK.may; (repeat' split) <;> simp)
  clear h hs
  unfold dkPtr at *
  rw [HF.out]
  generalize d.may p = m at *
  by_cases hm : m = 0
  · subst hm
    obtain ⟨h0, h6⟩ := HL.out rfl
    obtain ⟨q, rfl⟩ : ∃ q : Nat, p = (q : Int) := ⟨p.toNat, by omega⟩
    have hq : q < 6 := by omega
    rw [if_neg (by simp)]
    by_cases he : 0 ≤ e
    · by_cases h5 : e < 5
      · obtain ⟨c, rfl⟩ : ∃ c : Nat, e = (c : Int) := ⟨e.toNat, by omega⟩
        have hc := HG.out q c hq (by omega)
        obtain ⟨g1, g2⟩ := HB.out.g q c hq (by omega)
        have g3 := HB.out.o
        simp only [Int.toNat_natCast]
        generalize d.G q c = g at *
        have g4 : g ≤ 10000000 := by omega
        clear g2 g3
        by_cases hg : g = 0
        · subst hg
          rw [if_pos (Or.inr rfl)]
          go_enter Tryz.func138, Tryz.ntmps138
          go_wp2_with (go_at_call 136; refine HM.out.mono ?_; rintro r w1 ⟨rfl, hw⟩; have hw2 := hw.symm; clear hw; subst hw2)
          go_ret2
          exact ⟨rfl, rfl⟩
        · rw [if_neg (by simp [he, h5, hg])]
          have hg' : (g == 0) = false := by simpa using hg
          have hc0 : ¬ ((c : Int) < 0) := by omega
          have hc5 : ¬ (5 ≤ (c : Int)) := by omega
          go_enter Tryz.func138, Tryz.ntmps138
          go_wp2_with (go_at_call 136; refine HM.out.mono ?_; rintro r w1 ⟨rfl, hw⟩; have hw2 := hw.symm; clear hw; subst hw2)
          go_ret2
          exact ⟨rfl, rfl⟩
      · rw [if_pos (Or.inl (by omega))]
        go_enter Tryz.func138, Tryz.ntmps138
        go_wp2_with (go_at_call 136; refine HM.out.mono ?_; rintro r w1 ⟨rfl, hw⟩; have hw2 := hw.symm; clear hw; subst hw2)
        go_ret2
        exact ⟨rfl, rfl⟩
    · rw [if_pos (Or.inl (by omega))]
      go_enter Tryz.func138, Tryz.ntmps138
      go_wp2_with (go_at_call 136; refine HM.out.mono ?_; rintro r w1 ⟨rfl, hw⟩; have hw2 := hw.symm; clear hw; subst hw2)
      go_ret2
      exact ⟨rfl, rfl⟩
  · rw [if_pos hm]
    go_enter Tryz.func138, Tryz.ntmps138
    go_wp2_with (go_at_call 136; refine HM.out.mono ?_; rintro r w1 ⟨rfl, hw⟩; have hw2 := hw.symm; clear hw; subst hw2)
    go_ret2
    exact ⟨rfl, rfl⟩
end Go.Proofs.YtaicdjhblbobbaaGreat

/- Contracts of the document's answer, on: calls that nobody waits for: Waiting, Dup. -/
namespace Go.Proofs.YtaicdjhblbobbaaGreat
open Go.RowKit Go.Lib

theorem own_type {w : World} {e : TypeId} {sz n : Nat} {v : Value} {xs : List Value} (h : w.ownsRow 0 e sz v n xs) {b : Nat} (hb : v.ownBlock = some b) : ∃ cur, w.heap[b]? = some (.cells cur e (0, 0)) := by
  rcases h.2 with ⟨rfl, _⟩ | ⟨g, cap, cur, rfl, _, hg, _⟩
  · cases hb
  · cases hb; exact ⟨cur, hg⟩
theorem own_lt {w : World} {e : TypeId} {sz n : Nat} {v : Value} {xs : List Value} (h : w.ownsRow 0 e sz v n xs) {b : Nat} (hb : v.ownBlock = some b) : b < w.heap.size := by
  obtain ⟨cur, hc⟩ := own_type h hb
  exact (Array.getElem?_eq_some_iff.1 hc).1
/-- Only the block turns, and tells the same rows. -/
theorem DV.turn {w w' : World} {db : Nat} {P : Nat → Prop} {d d' : DK} {ov qv : Value} (h : DV w db P d ov qv) (hk : DeskB w' db d' ov qv) (hO : d'.O = d.O) (hQ : d'.Q = d.Q) (hp : Kp [db] w w') : DV w' db P d' ov qv := by
  have ne : ∀ {e : TypeId} {sz n : Nat} {v : Value} {xs : List Value}, w.ownsRow 0 e sz v n xs → e ≠ 171 → ∀ b, v.ownBlock = some b → w'.heap[b]? = w.heap[b]? := fun {e sz n v xs} ho hne b hb => by
    refine hp.block b (own_lt ho hb) fun hm => ?_
    obtain ⟨cur, hc⟩ := own_type ho hb
    obtain ⟨C, hC, _⟩ := h.k
    rw [List.mem_singleton] at hm
    rw [hm, hC] at hc
    cases hc
    exact hne rfl
  refine ⟨hk, ?_, ?_, h.pk, h.po, h.pq⟩
  · rw [hO]; exact own_blk h.o (ne h.o (by decide))
  · rw [hQ]; exact own_blk h.q (ne h.q (by decide))

set_option maxHeartbeats 4000000 in
set_option maxRecDepth 100000 in
theorem dWaiting_any {w : World} {db : Nat} {P : Nat → Prop} {d : DK} {ov qv : Value} (h : DV w db P d ov qv) (hs : d.Sm) :
    Calls Tryz.prog 97 #[dkPtr db] w fun e w' => ∃ v', e = .returned v' ∧ w'.ownsRow w.heap.size 3 1 v' (d.Q.map (·.p)).length (ints (d.Q.map (·.p))) ∧ Below w.heap.size w w' := by
  have hq7 := hs.q
  obtain ⟨a, c, rfl⟩ := own_form h.q
  have HQ := Hid.mk (fun (W : World) (hW : Below w.heap.size w W) => (h.below hW).k.cQ)
  have HR := Hid.mk h.q
  clear h hs
  unfold dkPtr
  generalize d.Q = l at *
  go_enter Tryz.func97, Tryz.ntmps97
  go_wp2
  go_loopw [3, 4] (fun s3 s4 wr => ∃ n : Nat, s4 = .int .i64 n ∧ n ≤ l.length ∧ Hid (wr.ownsRow w.heap.size 3 1 s3 ((l.take n).map (·.p)).length (ints ((l.take n).map (·.p)))) ∧ Hid (Below w.heap.size w wr)) (fun _ s4 _ => l.length - (intOf s4).toNat)
  case atStart => exact ⟨0, rfl, Nat.zero_le _, World.ownsRow_nil _ _ _ _, Below.refl _ _⟩
  case round =>
    obtain ⟨n, rfl, hn, HO, HB⟩ := hrel
    have hsz : w.heap.size ≤ wr.heap.size := HB.out.size
    have hqc := HQ.out wr HB.out
    by_cases hlt : n < l.length
    · have hlt' : (n : Int) < (l.length : Int) := by omega
      obtain ⟨x, hx⟩ : ∃ x, l[n]? = some x := ⟨_, List.getElem?_eq_getElem hlt⟩
      obtain ⟨g, rfl, hg, hat⟩ := askAtD HR.out hx
      have h0 : wr.cell? ⟨g, n * 7, none⟩ = some (.int .i64 x.p) := (HB.out.cell (p := ⟨g, n * 7, none⟩) hg).trans hat.p
      have HT : Hid ((l.take (n + 1)).map (·.p) = (l.take n).map (·.p) ++ [x.p]) := by show _ = _; rw [List.take_add_one, hx, List.map_append]; rfl
      have hll : ((l.take n).map (·.p)).length ≤ 7 := by simp; omega
      generalize (l.take n).map (·.p) = L at *
      obtain ⟨ua, uc, rfl⟩ := own_form HO.out
      clear hat hx
      go_wp2_with (at_builtin; refine wpList_snoc rfl _ _ _ rfl Tryz.underlying25 Tryz.infoInt rfl (by decide) (by decide) rfl HO.out (by omega) (by omega) (cs := #[.int .i64 x.p]) rfl (by simp) rfl (by simp [Value.oneCell']) ?_; intro v2 w2 ho2 hb3 hz3 hold3; have HO2 := Hid.mk ho2; have HB3 := Hid.mk hb3; clear ho2 hb3 hold3)
      go_roundw
      case rel =>
        refine ⟨n + 1, by go_num, by omega, ?_, HB.out.trans HB3.out⟩
        rw [HT.out, List.length_append, ints_snoc]
        exact HO2.out
      case measure => simp [intOf]; omega
    · obtain rfl : n = l.length := by omega
      have HO3 := HO.out
      rw [List.take_of_length_le (Nat.le_refl _)] at HO3
      have HO4 := Hid.mk HO3
      clear HO3
      go_wp2
      go_ret
      exact ⟨_, rfl, by have hx := HO4.out; rw [List.length_map] at hx; exact hx, HB.out⟩

section
variable {w : World} {db : Nat} {P : Nat → Prop} {d : DK} {ov qv : Value} (h : DV w db P d ov qv) (hs : d.Sm) (p e : Int)
include h hs
set_option maxHeartbeats 4000000 in
set_option maxRecDepth 100000 in
theorem dDup_fd (he : (d.fd p e).2 ≠ 0) :
    Calls Tryz.prog 101 #[dkPtr db, .int .i64 p, .int .i64 e] w fun r w' => r = .returned (.tuple #[.int .i64 0, .int .i64 (d.fd p e).2]) ∧ w' = w := by
  have HF := Hid.mk (dFd_any h hs p e)
  clear h hs
  unfold dkPtr at *
  generalize (d.fd p e).1 = o at *
  generalize (d.fd p e).2 = x at *
  have hx : (x != 0) = true := by simpa using he
  clear he
  go_enter Tryz.func101, Tryz.ntmps101
  go_wp2_with (go_at_call 138; refine HF.out.mono ?_; rintro r w1 ⟨rfl, hw⟩; have hw2 := hw.symm; clear hw; subst hw2)
  go_ret2
  exact ⟨rfl, rfl⟩
end
section
variable {w : World} {db : Nat} {P : Nat → Prop} {d : DK} {ov qv : Value} (h : DV w db P d ov qv) (hs : d.Sm) {p : Nat} (hp : p < 6) (e : Int)
include h hs hp
set_option maxHeartbeats 4000000 in
set_option maxRecDepth 100000 in
theorem dDup_full (he : (d.fd p e).2 = 0) (hl : d.least p < 0) :
    Calls Tryz.prog 101 #[dkPtr db, .int .i64 p, .int .i64 e] w fun r w' => r = .returned (.tuple #[.int .i64 0, .int .i64 3]) ∧ w' = w := by
  have HF := Hid.mk (dFd_any h hs p e)
  have HL := Hid.mk (dLeast_any h p hp)
  clear h hs
  unfold dkPtr at *
  generalize (d.fd p e).1 = o at *
  generalize (d.fd p e).2 = x at *
  generalize d.least p = L at *
  subst he
  go_enter Tryz.func101, Tryz.ntmps101
  go_wp2_with (first
    | (go_at_call 138; refine HF.out.mono ?_; rintro r w1 ⟨rfl, hw⟩; have hw2 := hw.symm; clear hw; subst hw2)
    | (go_at_call 137; refine HL.out.mono ?_; rintro r w1 ⟨rfl, hw⟩; have hw2 := hw.symm; clear hw; subst hw2))
  go_ret2
  exact ⟨rfl, rfl⟩
set_option maxHeartbeats 4000000 in
set_option maxRecDepth 100000 in
theorem dDup_ok (he : (d.fd p e).2 = 0) {o : Nat} (ho : (d.fd p e).1 = o) (hol : o < d.O.length) {i : Nat} (hl : d.least p = i) (hi : i < 5) :
    Calls Tryz.prog 101 #[dkPtr db, .int .i64 p, .int .i64 e] w fun r w' => r = .returned (.tuple #[.int .i64 i, .int .i64 0]) ∧ DV w' db P {d with G := putG d.G p i ((o : Int) + 1)} ov qv ∧ Kp [db] w w' := by
  have HF := Hid.mk (dFd_any h hs p e)
  have HL := Hid.mk (dLeast_any h p hp)
  have hc := h.k.cG hp hi
  have hfr := h.k.frozen (6 + p * 5 + i)
  have hd := h.k.lt
  have hoo := hs.o
  have HH := Hid.mk h
  have HP := Hid.mk hp
  have HI := Hid.mk hi
  rw [ho, he] at HF
  rw [hl] at HL
  have ho' : (o : Int) ≤ 10000000 := by omega
  have hi' : (i : Int) < 5 := by omega
  have hp' : (p : Int) < 6 := by omega
  clear h hs he ho hl
  unfold dkPtr at *
  go_enter Tryz.func101, Tryz.ntmps101
  go_wp2_with (first
    | (go_at_call 138; refine HF.out.mono ?_; rintro r w1 ⟨rfl, hw⟩; have hw2 := hw.symm; clear hw; subst hw2)
    | (go_at_call 137; refine HL.out.mono ?_; rintro r w1 ⟨rfl, hw⟩; have hw2 := hw.symm; clear hw; subst hw2))
  go_ret2
  refine ⟨rfl, HH.out.turn (HH.out.k.setG HP.out HI.out _) rfl rfl (Kp.setCell (by simp)), Kp.setCell (by simp)⟩
end
end Go.Proofs.YtaicdjhblbobbaaGreat

/- append of one to a long row: how long it may be, and where it lies behind it. -/
namespace Go.Proofs.YtaicdjhblbobbaaGreat
open Go.RowKit Go.Lib

theorem wpList_snocL {ops : Array Oper} {rest : List Oper} {o : Oper} {a : Act} {Q : Exit → Act → World → Prop} (hgd : o.guard = none) (s x : Operand) (t : TypeId)
    (ho : o.op = .call { callee := .builtin .append, args := #[s, x], argTypes := #[t, t] }) {e : TypeId} {z : Value} {sz by' : Nat} (hu : Tryz.prog.underlying t = some (.slice e))
    (hinf : (Tryz.prog.info? e).map (fun i => (i.zero, i.size, i.bytes)) = some (some z, sz, by')) (hzs : z.cells.size = sz) (h0 : 0 < sz) (hby : by' ≤ 1000)
    {base : Nat} {w : World} {v : Value} {n : Nat} {xs : List Value} (hs : a.eval s = v) (hown : w.ownsRow base e sz v n xs) (hb : base ≤ w.heap.size) (hn : n ≤ 100000000000)
    {cs : Array Value} {bb : Nat} (hx : a.eval x = .slice (some ⟨bb, 0, none⟩) 1 1) (hbb : bb = w.heap.size) (hcs : cs.size = sz) (h1 : ∀ u ∈ cs.toList, u.oneCell' = true)
    (h : ∀ v' w', w'.ownsRow base e sz v' (n + 1) (xs ++ cs.toList) → Below base w w' → w.heap.size ≤ w'.heap.size → (∀ b, b < w.heap.size → v.ownBlock ≠ some b → w'.heap[b]? = w.heap[b]?) → (∀ b, v'.ownBlock = some b → v.ownBlock = some b ∨ w.heap.size ≤ b) → wpList Tryz.prog ops Q rest (a.put o.dst v') w') :
    wpList Tryz.prog ops Q (o :: rest) a (w.alloc (.cells cs e)) := by
  subst hbb
  obtain ⟨i0, hi0, hz0, hz1, hz2⟩ := info_get hinf
  have hblk : (w.alloc (.cells cs e)).heap[w.heap.size]? = some (.cells cs e (0, 0)) := heap_alloc_new w _
  have hcell : ∀ j u, cs.toList[j]? = some u → (w.alloc (.cells cs e)).cell? ((⟨w.heap.size, 0, none⟩ : Addr).add j) = some u := fun j u hj => by
    have e1 : (⟨w.heap.size, 0, none⟩ : Addr).add j = ⟨w.heap.size, j, none⟩ := by unfold Addr.add; split <;> simp_all
    rw [e1]
    simp only [World.cell?, hblk]
    simpa using hj
  have hbyt : (n + 1) * by' ≤ 140737488355328 := by
    have : (n + 1) * by' ≤ 100000000001 * 1000 := Nat.mul_le_mul (by omega) hby
    omega
  obtain ⟨v', w', hr, hown', hgr, hwhere⟩ := append_run (P := Tryz.prog) (w.alloc (.cells cs e)) base t o.type e i0 z sz by' hu hi0 hz0 hz1 hz2 hzs h0 v n xs (hown.alloc _) ⟨w.heap.size, 0, none⟩ 1 1 cs.toList (by simp [hcs]) hcell h1 (by unfold maxLen; omega) hbyt (by simp; omega)
  refine Lib.wpList_append_run _ hgd s x t t ho v _ hs hx v' w' hr ?_
  have hz := hgr.size
  simp at hz
  refine h v' w' hown' ?_ (by omega) (fun b hb' hne => ?_) (fun b hb' => ?_)
  · exact ((Below.refl base w).alloc hb _).grown hgr (by simp; omega) (fun k hk => (hown.lt k hk).1)
  · rw [hgr.block b (by simp; omega) (fun e' => hne e'.symm)]
    exact Below.heap_alloc _ _ _ hb'
  · rcases hwhere b hb' with h2 | h2
    · exact Or.inl h2
    · right; simp at h2; omega

section
variable {w : World} {db : Nat} {P : Nat → Prop} {d : DK} {ov qv : Value} (h : DV w db P d ov qv) (hs : d.Sm)
include h hs
set_option maxHeartbeats 4000000 in
set_option maxRecDepth 100000 in
theorem dOpen_may (p f : Int) (he : d.may p ≠ 0) :
    Calls Tryz.prog 100 #[dkPtr db, .int .i64 p, .int .i64 f] w fun r w' => r = .returned (.tuple #[.int .i64 0, .int .i64 (d.may p)]) ∧ w' = w := by
  have HM := Hid.mk (dMay_any h hs p)
  clear h hs
  unfold dkPtr at *
  generalize d.may p = x at *
  have hx : (x != 0) = true := by simpa using he
  clear he
  go_enter Tryz.func100, Tryz.ntmps100
  go_wp2_with (go_at_call 136; refine HM.out.mono ?_; rintro r w1 ⟨rfl, hw⟩; have hw2 := hw.symm; clear hw; subst hw2)
  go_ret2
  exact ⟨rfl, rfl⟩
set_option maxHeartbeats 4000000 in
set_option maxRecDepth 100000 in
theorem dOpen_file (p f : Int) (he : d.may p = 0) (hf : ¬ (0 ≤ f ∧ f < 3)) :
    Calls Tryz.prog 100 #[dkPtr db, .int .i64 p, .int .i64 f] w fun r w' => r = .returned (.tuple #[.int .i64 0, .int .i64 4]) ∧ w' = w := by
  have HM := Hid.mk (dMay_any h hs p)
  clear h hs
  unfold dkPtr at *
  rw [he] at HM
  clear he
  by_cases h0 : f < 0
  · clear hf
    go_enter Tryz.func100, Tryz.ntmps100
    go_wp2_with (go_at_call 136; refine HM.out.mono ?_; rintro r w1 ⟨rfl, hw⟩; have hw2 := hw.symm; clear hw; subst hw2)
    go_ret2
    exact ⟨rfl, rfl⟩
  · have h3 : 3 ≤ f := by omega
    clear hf
    go_enter Tryz.func100, Tryz.ntmps100
    go_wp2_with (go_at_call 136; refine HM.out.mono ?_; rintro r w1 ⟨rfl, hw⟩; have hw2 := hw.symm; clear hw; subst hw2)
    go_ret2
    exact ⟨rfl, rfl⟩
set_option maxHeartbeats 4000000 in
set_option maxRecDepth 100000 in
theorem dOpen_full (p : Nat) (f : Int) (hp : p < 6) (he : d.may p = 0) (hf : 0 ≤ f ∧ f < 3) (hl : d.least p < 0) :
    Calls Tryz.prog 100 #[dkPtr db, .int .i64 p, .int .i64 f] w fun r w' => r = .returned (.tuple #[.int .i64 0, .int .i64 3]) ∧ w' = w := by
  have HM := Hid.mk (dMay_any h hs p)
  have HL := Hid.mk (dLeast_any h p hp)
  clear h hs
  unfold dkPtr at *
  rw [he] at HM
  clear he
  obtain ⟨f1, f2⟩ := hf
  have f3 : ¬ f < 0 := by omega
  have f4 : ¬ 3 ≤ f := by omega
  generalize d.least p = L at *
  go_enter Tryz.func100, Tryz.ntmps100
  go_wp2_with (first | (go_at_call 136; refine HM.out.mono ?_; rintro r w1 ⟨rfl, hw⟩; have hw2 := hw.symm; clear hw; subst hw2) | (go_at_call 137; refine HL.out.mono ?_; rintro r w1 ⟨rfl, hw⟩; have hw2 := hw.symm; clear hw; subst hw2))
  go_ret2
  exact ⟨rfl, rfl⟩
end
end Go.Proofs.YtaicdjhblbobbaaGreat

/- What a call leaves alone, told by the blocks that are the caller's own; an opening's entry written. -/
namespace Go.Proofs.YtaicdjhblbobbaaGreat
open Go.RowKit Go.Lib

theorem Upd.refl (P : Nat → Prop) (w : World) : Upd P P w w := ⟨rfl, rfl, rfl, Nat.le_refl _, fun _ _ _ => rfl, fun _ _ h => h⟩
theorem Upd.trans {P : Nat → Prop} {a b c : World} (h : Upd P P a b) (k : Upd P P b c) : Upd P P a c :=
  ⟨k.os.trans h.os, k.tape.trans h.tape, k.output.trans h.output, Nat.le_trans h.size k.size, fun i hi hn => (k.block i (Nat.lt_of_lt_of_le hi h.size) hn).trans (h.block i hi hn), fun _ _ h => h⟩
theorem Upd.of_below {P : Nat → Prop} {w w' : World} (h : Below w.heap.size w w') : Upd P P w w' := ⟨h.os, h.tape, h.output, h.size, fun k hk _ => h.block k hk, fun _ _ h => h⟩
theorem Upd.of_kp {P : Nat → Prop} {bs : List Nat} {w w' : World} (h : Kp bs w w') (hb : ∀ b, b ∈ bs → P b) : Upd P P w w' := ⟨h.os, h.tape, h.output, h.size, fun k hk hn => h.block k hk (fun hm => hn (hb k hm)), fun _ _ h => h⟩
theorem Upd.cell {P : Nat → Prop} {w w' : World} (h : Upd P P w w') {a : Addr} (ha : P a.block) (v : Value) : Upd P P w (w'.setCell a v) :=
  h.trans (Upd.of_kp (bs := [a.block]) (Kp.setCell (by simp)) (fun b hb => by rw [List.mem_singleton] at hb; exact hb ▸ ha))
theorem Upd.belowB {P : Nat → Prop} {w w1 w2 : World} (h : Upd P P w w1) (hb : Below w.heap.size w1 w2) : Upd P P w w2 := ⟨hb.os.trans h.os, hb.tape.trans h.tape, hb.output.trans h.output, Nat.le_trans h.size hb.size, fun k hk hn => (hb.block k hk).trans (h.block k hk hn), fun _ _ h => h⟩
theorem Upd.drewN {P : Nat → Prop} {w w' : World} (h : Upd P P w w') (n : Nat) : Upd P P w (w'.drewN n) := ⟨h.os, h.tape, h.output, h.size, h.block, fun _ _ h => h⟩
theorem Below.drewN {B : Nat} {a w : World} (h : Below B a w) (n : Nat) : Below B a (w.drewN n) := ⟨h.os, h.tape, h.output, h.size, h.block⟩
theorem Kp.drew {bs : List Nat} {w w' : World} (h : Kp bs w w') : Kp bs w w'.drew := ⟨h.os, h.tape, h.output, h.size, h.block⟩
theorem Upd.drew {P : Nat → Prop} {w w' : World} (h : Upd P P w w') : Upd P P w w'.drew := ⟨h.os, h.tape, h.output, h.size, h.block, fun _ _ h => h⟩
theorem Upd.alloc {P : Nat → Prop} {w w' : World} (h : Upd P P w w') (o : Obj) : Upd P P w (w'.alloc o) := h.belowB ((Below.refl _ _).alloc h.size _)
theorem flat_set {α : Type} (f : α → List Value) (sz : Nat) (hf : ∀ x, (f x).length = sz) : ∀ (l : List α) (n j : Nat) (x y : α) (v : Value), l[n]? = some x → j < sz → f y = (f x).set j v → (l.flatMap f).set (n * sz + j) v = (l.set n y).flatMap f
  | [], n, j, x, y, v, h, _, _ => by simp at h
  | z :: l, 0, j, x, y, v, h, hj, hy => by
    simp at h
    subst h
    simp only [List.flatMap_cons, List.set_cons_zero, Nat.zero_mul, Nat.zero_add]
    rw [List.set_append, if_pos (by rw [hf]; exact hj), hy]
  | z :: l, n + 1, j, x, y, v, h, hj, hy => by
    simp only [List.flatMap_cons, List.set_cons_succ]
    have ih := flat_set f sz hf l n j x y v (by simpa using h) hj hy
    have e : (n + 1) * sz + j = sz + (n * sz + j) := by rw [Nat.add_mul]; omega
    rw [e, List.set_append, hf, if_neg (by omega), show sz + (n * sz + j) - sz = n * sz + j by omega, ih]
/-- Cells stored in a block. -/
theorem setCells_at {b : Nat} {t : TypeId} {fr : Nat × Nat} : ∀ (vs : List Value) (o : Nat) (w : World) (X : Array Value), w.heap[b]? = some (.cells X t fr) → o + vs.length ≤ X.size → ∃ X', (w.setCells b o vs).heap[b]? = some (.cells X' t fr) ∧ X'.size = X.size ∧ ∀ j, X'[j]? = if o ≤ j ∧ j < o + vs.length then vs[j - o]? else X[j]?
  | [], o, w, X, h, _ => ⟨X, h, rfl, fun j => by rw [if_neg (by simp)]⟩
  | v :: r, o, w, X, h, hl => by
    simp only [List.length_cons] at hl
    obtain ⟨X', h1, h2, h3⟩ := setCells_at r (o + 1) (w.setCell ⟨b, o, none⟩ v) (X.setIfInBounds o v) (setDesk_at h) (by simp; omega)
    refine ⟨X', h1, by simpa using h2, fun j => ?_⟩
    rw [h3]
    by_cases e : o = j
    · subst e
      rw [if_neg (by omega), if_pos ⟨by omega, by simp⟩, set_self (by omega)]
      simp
    · rw [set_other e]
      by_cases g : o + 1 ≤ j ∧ j < o + 1 + r.length
      · rw [if_pos g, if_pos ⟨by omega, by simp; omega⟩, show j - o = (j - (o + 1)) + 1 by omega, List.getElem?_cons_succ]
      · rw [if_neg g, if_neg (by simp only [List.length_cons]; omega)]
theorem Kp.setCells {bs : List Nat} {b : Nat} (hb : b ∈ bs) : ∀ (vs : List Value) (o : Nat) (w : World), Kp bs w (w.setCells b o vs)
  | [], _, _ => Kp.refl _ _
  | _ :: r, o, _ => (Kp.setCell (a := ⟨b, o, none⟩) hb).trans (Kp.setCells hb r (o + 1) _)
/-- What all have on a file's positions, as cells. -/
def cellsF (C : Nat → Nat → Int) : List Value := (List.range 384).map fun j => .int .i64 (C (j / 6) (j % 6))
theorem cellsF_len (C : Nat → Nat → Int) : (cellsF C).length = 384 := by simp [cellsF]
theorem cellsF_get (C : Nat → Nat → Int) {j : Nat} (hj : j < 384) : (cellsF C)[j]? = some (.int .i64 (C (j / 6) (j % 6))) := by simp [cellsF, hj]
theorem cellsF_one (C : Nat → Nat → Int) : ∀ v ∈ cellsF C, v.oneCell' = true := fun v hv => by
  unfold cellsF at hv
  obtain ⟨j, _, rfl⟩ := List.mem_map.1 hv
  rfl
section
variable {w : World} {db : Nat} {d : DK} {ov qv : Value} (h : DeskB w db d ov qv)
include h
theorem DeskB.rangeF {f : Nat} (hf : f < 3) : w.rangeAt db (37 + f * 384) (cellsF (d.C f)) := fun j v hv => by
  have hj : j < 384 := by have := (List.getElem?_eq_some_iff.1 hv).1; rw [cellsF_len] at this; exact this
  rw [cellsF_get _ hj] at hv
  have := h.cC hf (i := j / 6) (p := j % 6) (by omega) (by omega)
  rw [← hv, ← this]
  congr 2
  omega
theorem DeskB.thereF {f : Nat} (hf : f < 3) : w.there db (37 + f * 384) 384 := fun j hj => by
  refine ⟨?_, h.frozen _⟩
  have := h.cC hf (i := j / 6) (p := j % 6) (by omega) (by omega)
  rw [show 37 + f * 384 + j / 6 * 6 + j % 6 = 37 + f * 384 + j by omega] at this
  rw [this]; rfl
theorem DeskB.setF {f : Nat} (hf : f < 3) (C : Nat → Nat → Int) : DeskB (w.setCells db (37 + f * 384) (cellsF C)) db {d with C := fun g => if g = f then C else d.C g} ov qv := by
  obtain ⟨X, h, hc⟩ := h
  have hs := hc.size
  obtain ⟨X', h1, h2, h3⟩ := setCells_at (cellsF C) (37 + f * 384) w X h (by rw [cellsF_len]; omega)
  rw [cellsF_len] at h3
  refine ⟨X', h1, by omega, fun j hj => ?_, fun q e hq he => ?_, ?_, fun g j q hg hj hq => ?_, ?_, ?_⟩
  · rw [h3, if_neg (by omega)]; exact hc.A j hj
  · rw [h3, if_neg (by omega)]; exact hc.G q e hq he
  · rw [h3, if_neg (by omega)]; exact hc.O
  · rw [h3]
    by_cases e : g = f
    · subst e
      rw [if_pos (by omega), cellsF_get _ (by omega)]
      rw [show (37 + g * 384 + j * 6 + q - (37 + g * 384)) / 6 = j by omega, show (37 + g * 384 + j * 6 + q - (37 + g * 384)) % 6 = q by omega]
      simp only [if_true]
    · simp only [e, if_false]
      rw [if_neg (by omega)]; exact hc.C g j q hg hj hq
  · rw [h3, if_neg (by omega)]; exact hc.Q
  · rw [h3, if_neg (by omega)]; exact hc.n
end
section
variable {w : World} {db : Nat} {P : Nat → Prop} {d : DK} {ov qv : Value}
theorem DeskB.turnO (h : DeskB w db d ov qv) (l : List Og) : DeskB w db {d with O := l} ov qv := by
  obtain ⟨C, h, hc⟩ := h
  exact ⟨C, h, hc.size, hc.A, hc.G, hc.O, hc.C, hc.Q, hc.n⟩
/-- The Desk's block is no row's. -/
theorem DV.ne_o (h : DV w db P d ov qv) {b : Nat} (e : ov.ownBlock = some b) : b ≠ db := fun hb => by
  obtain ⟨cur, hc⟩ := own_type h.o e
  obtain ⟨C, hC, _⟩ := h.k
  rw [hb, hC] at hc
  cases hc
theorem DV.ne_q (h : DV w db P d ov qv) {b : Nat} (e : qv.ownBlock = some b) : b ≠ db := fun hb => by
  obtain ⟨cur, hc⟩ := own_type h.q e
  obtain ⟨C, hC, _⟩ := h.k
  rw [hb, hC] at hc
  cases hc
theorem DV.ne_oq (h : DV w db P d ov qv) {b : Nat} (e : ov.ownBlock = some b) : qv.ownBlock ≠ some b := fun e2 => by
  obtain ⟨cur, hc⟩ := own_type h.o e
  obtain ⟨C, hC⟩ := own_type h.q e2
  rw [hC] at hc
  cases hc
/-- An entry of the openings is written. -/
theorem DV.setOg {g n c : Nat} (h : DV w db P d (.slice (some ⟨g, 0, none⟩) n c) qv) {o j : Nat} {x y : Og} {v : Value} (hx : d.O[o]? = some x) (hj : j < 3) (hy : ogC y = (ogC x).set j v) :
    DV (w.setCell ⟨g, o * 3 + j, none⟩ v) db P {d with O := d.O.set o y} (.slice (some ⟨g, 0, none⟩) n c) qv := by
  have hn : n = d.O.length := by
    rcases h.o.2 with ⟨e, _⟩ | ⟨_, _, _, e, _⟩
    · cases e
    · cases e; rfl
  have hg : g ≠ db := h.ne_o rfl
  refine ⟨(h.k.of_block (Below.heap_setCell _ _ _ _ (fun e => hg e.symm))).turnO _, ?_, ?_, h.pk, h.po, h.pq⟩
  · subst hn
    have hs := (h.o.stored (o * 3 + j) v).1
    have e := flat_set ogC 3 ogC_len d.O o j x y v hx hj hy
    unfold flatO at hs ⊢
    rw [e] at hs
    simp only [List.length_set]
    exact hs
  · exact own_blk h.q fun b e => Below.heap_setCell _ _ _ _ (fun e2 => h.ne_oq (b := b) (by simp at e2; simp [Value.ownBlock, e2]) e)
/-- A row beside it turns, by blocks. -/
theorem DV.other {w' : World} (h : DV w db P d ov qv) (hk : w'.heap[db]? = w.heap[db]?) (ho : ∀ b, ov.ownBlock = some b → w'.heap[b]? = w.heap[b]?) (hq : ∀ b, qv.ownBlock = some b → w'.heap[b]? = w.heap[b]?) : DV w' db P d ov qv :=
  ⟨h.k.of_block hk, own_blk h.o ho, own_blk h.q hq, h.pk, h.po, h.pq⟩
/-- Rows that lie there, and the block written behind them. -/
theorem DV.make {w' : World} {d0 : DK} {ov0 qv0 : Value} (hk0 : DeskB w db d0 ov0 qv0) (hk : DeskB w' db d ov qv) (ho : w.ownsRow 0 215 3 ov d.O.length (flatO d.O)) (hq : w.ownsRow 0 218 7 qv d.Q.length (flatA d.Q)) (heq : ∀ b, b ≠ db → w'.heap[b]? = w.heap[b]?) (pk : P db) (po : ∀ b, ov.ownBlock = some b → P b) (pq : ∀ b, qv.ownBlock = some b → P b) : DV w' db P d ov qv := by
  have ne : ∀ {e : TypeId} {sz n : Nat} {v : Value} {xs : List Value}, w.ownsRow 0 e sz v n xs → e ≠ 171 → ∀ b, v.ownBlock = some b → b ≠ db := fun {e sz n v xs} ho hne b hb hbd => by
    obtain ⟨cur, hc⟩ := own_type ho hb
    obtain ⟨C, hC, _⟩ := hk0
    rw [hbd, hC] at hc
    cases hc
    exact hne rfl
  exact ⟨hk, own_blk ho fun b e => heq b (ne ho (by decide) b e), own_blk hq fun b e => heq b (ne hq (by decide) b e), pk, po, pq⟩
/-- The order that is drawn is nothing to it. -/
theorem DV.drewN (h : DV w db P d ov qv) (n : Nat) : DV (w.drewN n) db P d ov qv := h.other rfl (fun _ _ => rfl) (fun _ _ => rfl)
end
end Go.Proofs.YtaicdjhblbobbaaGreat

/- Which blocks a call of the document's answer turns. -/
namespace Go.Proofs.YtaicdjhblbobbaaGreat
open Go.RowKit Go.Lib

/-- Only the Desk's block, the row of its openings, and new memory turn. -/
structure KD (db : Nat) (ov : Value) (w w' : World) : Prop where
  os : w'.os = w.os
  tape : w'.tape = w.tape
  output : w'.output = w.output
  size : w.heap.size ≤ w'.heap.size
  block : ∀ k, k < w.heap.size → k ≠ db → ov.ownBlock ≠ some k → w'.heap[k]? = w.heap[k]?
section
variable {db : Nat} {ov : Value} {w w' w2 : World}
theorem KD.refl (db : Nat) (ov : Value) (w : World) : KD db ov w w := ⟨rfl, rfl, rfl, Nat.le_refl _, fun _ _ _ _ => rfl⟩
theorem KD.trans (h : KD db ov w w') (k : KD db ov w' w2) : KD db ov w w2 := ⟨k.os.trans h.os, k.tape.trans h.tape, k.output.trans h.output, Nat.le_trans h.size k.size, fun i hi h1 h2 => (k.block i (Nat.lt_of_lt_of_le hi h.size) h1 h2).trans (h.block i hi h1 h2)⟩
theorem KD.of_below (h : Below w.heap.size w w') : KD db ov w w' := ⟨h.os, h.tape, h.output, h.size, fun k hk _ _ => h.block k hk⟩
theorem KD.belowB (h : KD db ov w w') (hb : Below w.heap.size w' w2) : KD db ov w w2 := ⟨hb.os.trans h.os, hb.tape.trans h.tape, hb.output.trans h.output, Nat.le_trans h.size hb.size, fun k hk h1 h2 => (hb.block k hk).trans (h.block k hk h1 h2)⟩
theorem KD.of_kp (h : Kp [db] w w') : KD db ov w w' := ⟨h.os, h.tape, h.output, h.size, fun k hk h1 _ => h.block k hk (by simpa using h1)⟩
theorem KD.cell (h : KD db ov w w') {a : Addr} (ha : a.block = db ∨ ov.ownBlock = some a.block) (v : Value) : KD db ov w (w'.setCell a v) := ⟨h.os, h.tape, h.output, by simpa using h.size, fun k hk h1 h2 => (Below.heap_setCell _ _ _ _ (fun e => by
  rcases ha with ha | ha
  · exact h1 (e.trans ha)
  · exact h2 (by rw [e]; exact ha))).trans (h.block k hk h1 h2)⟩
theorem KD.drewN (h : KD db ov w w') (n : Nat) : KD db ov w (w'.drewN n) := ⟨h.os, h.tape, h.output, h.size, h.block⟩
theorem KD.drew (h : KD db ov w w') : KD db ov w w'.drew := ⟨h.os, h.tape, h.output, h.size, h.block⟩
theorem KD.alloc (h : KD db ov w w') (o : Obj) : KD db ov w (w'.alloc o) := h.belowB ((Below.refl _ _).alloc h.size _)
theorem KD.upd (h : KD db ov w w') {P : Nat → Prop} (h1 : P db) (h2 : ∀ b, ov.ownBlock = some b → P b) : Upd P P w w' := ⟨h.os, h.tape, h.output, h.size, fun k hk hn => h.block k hk (fun e => hn (e ▸ h1)) (fun e => hn (h2 k e)), fun _ _ h => h⟩
end
end Go.Proofs.YtaicdjhblbobbaaGreat

/- Contracts of the document's answer, on: one waits no more. -/
namespace Go.Proofs.YtaicdjhblbobbaaGreat
open Go.RowKit Go.Lib

theorem Tryz.infoAskD : (Tryz.prog.info? 218).map (fun i => (i.zero, i.size, i.bytes)) = some (some (.agg #[.int .i64 0, .int .i64 0, .int .i64 0, .bool false, .int .i64 0, .int .i64 0, .int .i64 0]), 7, 56) := by kernel_rfl
theorem askC_one (x : Ask) : ∀ u ∈ askC x, u.oneCell' = true := by
  intro u hu
  simp only [askC, List.mem_cons, List.not_mem_nil, or_false] at hu
  rcases hu with rfl | rfl | rfl | rfl | rfl | rfl | rfl <;> rfl
theorem flatA_one (l : List Ask) : ∀ u ∈ flatA l, u.oneCell' = true := fun u hu => by
  obtain ⟨x, _, h⟩ := List.mem_flatMap.1 hu
  exact askC_one x u h
theorem flatA_len (l : List Ask) : (flatA l).length = l.length * 7 := flat_len askC 7 askC_len l
theorem flatA_app (l m : List Ask) : flatA (l ++ m) = flatA l ++ flatA m := by simp [flatA]
theorem flatA_take (l : List Ask) (n : Nat) (j : Nat) (u : Value) (h : (flatA (l.take n))[j]? = some u) : (flatA l)[j]? = some u := by
  have e : flatA l = flatA (l.take n) ++ flatA (l.drop n) := by rw [← flatA_app, List.take_append_drop]
  rw [e, List.getElem?_append_left (List.getElem?_eq_some_iff.1 h).1]
  exact h
theorem flatA_drop (l : List Ask) (n : Nat) (hn : n ≤ l.length) (j : Nat) (u : Value) (h : (flatA (l.drop n))[j]? = some u) : (flatA l)[n * 7 + j]? = some u := by
  have e : flatA l = flatA (l.take n) ++ flatA (l.drop n) := by rw [← flatA_app, List.take_append_drop]
  have hl : (flatA (l.take n)).length = n * 7 := by rw [flatA_len, List.length_take, Nat.min_eq_left hn]
  rw [e, List.getElem?_append_right (by omega), hl, Nat.add_sub_cancel_left]
  exact h
/-- append of a row that lies somewhere onto one's own. -/
theorem wpList_appN {ops : Array Oper} {rest : List Oper} {o : Oper} {a : Act} {Q : Exit → Act → World → Prop} (hgd : o.guard = none) (s x : Operand) (t : TypeId)
    (ho : o.op = .call { callee := .builtin .append, args := #[s, x], argTypes := #[t, t] }) {e : TypeId} {z : Value} {sz by' : Nat} (hu : Tryz.prog.underlying t = some (.slice e))
    (hinf : (Tryz.prog.info? e).map (fun i => (i.zero, i.size, i.bytes)) = some (some z, sz, by')) (hzs : z.cells.size = sz) (h0 : 0 < sz) (hby : by' ≤ 1000)
    {base : Nat} {w : World} {v : Value} {n : Nat} {xs : List Value} (hs : a.eval s = v) (hown : w.ownsRow base e sz v n xs) (hb : base ≤ w.heap.size) (hn : n ≤ 10000000000)
    {src : Addr} {m c : Nat} {news : List Value} (hx : a.eval x = .slice (some src) m c) (hm : m ≤ 10000000000) (hl : news.length = m * sz) (hnews : ∀ j u, news[j]? = some u → w.cell? (src.add j) = some u) (h1 : ∀ u ∈ news, u.oneCell' = true)
    (h : ∀ v' w', w'.ownsRow base e sz v' (n + m) (xs ++ news) → Below base w w' → w.heap.size ≤ w'.heap.size → (∀ b, b < w.heap.size → v.ownBlock ≠ some b → w'.heap[b]? = w.heap[b]?) → (∀ b, v'.ownBlock = some b → v.ownBlock = some b ∨ w.heap.size ≤ b) → wpList Tryz.prog ops Q rest (a.put o.dst v') w') :
    wpList Tryz.prog ops Q (o :: rest) a w := by
  obtain ⟨i0, hi0, hz0, hz1, hz2⟩ := info_get hinf
  have hbyt : (n + m) * by' ≤ 140737488355328 := by
    have : (n + m) * by' ≤ 20000000000 * 1000 := Nat.mul_le_mul (by omega) hby
    omega
  obtain ⟨v', w', hr, hown', hgr, hwhere⟩ := append_run (P := Tryz.prog) w base t o.type e i0 z sz by' hu hi0 hz0 hz1 hz2 hzs h0 v n xs hown src m c news hl hnews h1 (by unfold maxLen; omega) hbyt hb
  refine Lib.wpList_append_run _ hgd s x t t ho v _ hs hx v' w' hr ?_
  exact h v' w' hown' ((Below.refl base w).grown hgr hb (fun k hk => (hown.lt k hk).1)) hgr.size (fun b hb' hne => hgr.block b hb' (fun e' => hne e'.symm)) hwhere
set_option maxHeartbeats 8000000 in
set_option maxRecDepth 100000 in
theorem dLeave_any {w : World} {db : Nat} {P : Nat → Prop} {d : DK} {ov qv : Value} (h : DV w db P d ov qv) (hq : d.Q.length ≤ 7) (hP : ∀ b, w.heap.size ≤ b → P b) {i : Nat} (hi : i < d.Q.length) :
    Calls Tryz.prog 170 #[dkPtr db, .int .i64 i] w fun r w' => r = .returned (.tuple #[]) ∧ (∃ qv', DV w' db P {d with Q := d.Q.eraseIdx i} ov qv') ∧ KD db ov w w' := by
  obtain ⟨qa, qc, rfl⟩ := own_form h.q
  obtain ⟨g, rfl, _, hg, hqc, hcell⟩ := own_some h.q (by omega)
  have HV := Hid.mk h
  have hdb := h.k.lt
  have c89 := h.k.cQ
  have HKW := Hid.mk (fun (W : World) (hW : Below w.heap.size w W) => (h.below hW))
  have HCA := Hid.mk (fun (W : World) (hW : Below w.heap.size w W) (j : Nat) (hj : j < d.Q.length * 7) => (hW.cell (p := ⟨g, j, none⟩) hg).trans (hcell j hj))
  have HPP := Hid.mk hP
  have hi' : (i : Int) < (d.Q.length : Int) := by omega
  have hic : (i : Int) ≤ (qc : Int) := by omega
  have hic2 : i ≤ qc := by omega
  have hil : i + 1 ≤ d.Q.length := hi
  have hil' : (i : Int) + 1 ≤ (d.Q.length : Int) := by omega
  have hlc : d.Q.length ≤ qc := hqc
  have hlc' : (d.Q.length : Int) ≤ (qc : Int) := by omega
  have HT := Hid.mk (flatA_take d.Q i)
  have HD := Hid.mk (flatA_drop d.Q (i + 1) (by omega))
  have HTL : Hid ((flatA (d.Q.take i)).length = i * 7) := by show _ = _; rw [flatA_len, List.length_take, Nat.min_eq_left (by omega)]
  have HDL : Hid ((flatA (d.Q.drop (i + 1))).length = (d.Q.length - (i + 1)) * 7) := by show _ = _; rw [flatA_len, List.length_drop]
  clear h hcell hP
  unfold dkPtr at *
  generalize hql : d.Q.length = n at *
  have HQL := Hid.mk hql
  clear hql
  have HC1 : Hid (∀ j u, (flatA (d.Q.take i))[j]? = some u → w.cell? ((⟨g, 0, none⟩ : Addr).add j) = some u) := fun j u hj => by
    have e1 : (⟨g, 0, none⟩ : Addr).add j = ⟨g, j, none⟩ := by unfold Addr.add; split <;> simp_all
    have hjl : j < i * 7 := by rw [← HTL.out]; exact (List.getElem?_eq_some_iff.1 hj).1
    rw [e1, HCA.out w (Below.refl _ _) j (by omega)]
    exact HT.out j u hj
  obtain ⟨so, hso, hsc⟩ : ∃ so : Nat, (if qc = i + 1 then 0 else (i + 1) * 7) = so ∧ (∀ W : World, Below w.heap.size w W → ∀ j u, (flatA (d.Q.drop (i + 1)))[j]? = some u → W.cell? ((⟨g, so, none⟩ : Addr).add j) = some u) := by
    refine ⟨_, rfl, fun W hW j u hj => ?_⟩
    have hjl : j < (n - (i + 1)) * 7 := by rw [← HDL.out]; exact (List.getElem?_eq_some_iff.1 hj).1
    rw [if_neg (by omega)]
    have e1 : (⟨g, (i + 1) * 7, none⟩ : Addr).add j = ⟨g, (i + 1) * 7 + j, none⟩ := by unfold Addr.add; split <;> simp_all
    rw [e1, HCA.out W hW _ (by omega)]
    exact HD.out j u hj
  have HC2 := Hid.mk hsc
  have HER : Hid (flatA (d.Q.take i) ++ flatA (d.Q.drop (i + 1)) = flatA (d.Q.eraseIdx i)) := by show _ = _; rw [← flatA_app, List.eraseIdx_eq_take_drop_succ]
  have HEL : Hid ((d.Q.eraseIdx i).length = i + (n - (i + 1))) := by show _ = _; rw [List.length_eraseIdx, HQL.out, if_pos (by omega)]; omega
  have fin : ∀ v2 w1 w2, Below w.heap.size w w1 → w2.ownsRow w.heap.size 218 7 v2 (i + (n - (i + 1))) (flatA (d.Q.take i) ++ flatA (d.Q.drop (i + 1))) → Below w.heap.size w1 w2 → (∃ qv', DV (w2.setCell ⟨db, 1189, none⟩ v2) db P {d with Q := d.Q.eraseIdx i} ov qv') ∧ KD db ov w (w2.setCell ⟨db, 1189, none⟩ v2) := fun v2 w1 w2 hb1 ho2 hb2 => by
    have hb := hb1.trans hb2
    have hv := HV.out.below hb
    refine ⟨⟨v2, DV.make (w := w2) hv.k (hv.k.setQ (d.Q.eraseIdx i) v2) hv.o ?_ (fun b hne => Below.heap_setCell _ _ _ _ hne) hv.pk hv.po (fun b e => HPP.out b (ho2.lt b e).1)⟩, (KD.of_below hb).cell (a := ⟨db, 1189, none⟩) (Or.inl rfl) _⟩
    simp only
    rw [HEL.out, ← HER.out]
    exact own_mono ho2 (Nat.zero_le _)
  have HFIN := Hid.mk fin
  clear hsc fin
  by_cases hqi : qc = i + 1
  · rw [if_pos hqi] at hso
    subst hso
    subst hqi
    have hn1 : n - (i + 1) = 0 := by omega
    have HN1 := Hid.mk hn1
    have HDE : Hid (flatA (d.Q.drop (i + 1)) = []) := by show _ = _; rw [List.drop_eq_nil_of_le (by rw [HQL.out]; omega)]; rfl
    clear hn1
    go_enter Tryz.func170, Tryz.ntmps170
    go_wp2_with (first
      | (at_builtin; refine wpList_appN rfl _ _ _ rfl Tryz.underlying169 Tryz.infoAskD rfl (by decide) (by decide) (base := w.heap.size) (v := .slice none 0 0) rfl (World.ownsRow_nil _ _ _ _) (Nat.le_refl _) (by omega) (src := ⟨g, 0, none⟩) (m := i) rfl (by omega) HTL.out HC1.out (flatA_one _) ?_; intro v1 w1 ho1 hb1 hz1 _ _; rw [Nat.zero_add, List.nil_append] at ho1; obtain ⟨a1, c1, rfl⟩ := own_form ho1; have d89 := (HKW.out w1 hb1).k.cQ; have e89 := (HKW.out w1 hb1).k.frozen 1189; have HO1 := Hid.mk ho1; have HB1 := Hid.mk hb1; clear ho1 hb1)
      | (at_builtin; refine wpList_appN rfl _ _ _ rfl Tryz.underlying169 Tryz.infoAskD rfl (by decide) (by decide) (n := i) rfl HO1.out (by omega) (by omega) (src := ⟨g, 0, none⟩) (m := 0) (news := []) rfl (by omega) rfl (fun j u hj => by simp at hj) (fun u hu => by simp at hu) ?_; intro v2 w2 ho2 hb2 hz2 _ _; obtain ⟨a2, c2, rfl⟩ := own_form ho2; have f89 := (HKW.out w2 (HB1.out.trans hb2)).k.cQ; have g89 := (HKW.out w2 (HB1.out.trans hb2)).k.frozen 1189; have HO2 := Hid.mk ho2; have HB2 := Hid.mk hb2; clear ho2 hb2))
    go_end0
    exact ⟨rfl, HFIN.out _ w1 w2 HB1.out (by rw [HN1.out, HDE.out]; exact HO2.out) HB2.out⟩
  · rw [if_neg hqi] at hso
    subst hso
    go_enter Tryz.func170, Tryz.ntmps170
    go_wp2_with (first
      | (at_builtin; refine wpList_appN rfl _ _ _ rfl Tryz.underlying169 Tryz.infoAskD rfl (by decide) (by decide) (base := w.heap.size) (v := .slice none 0 0) rfl (World.ownsRow_nil _ _ _ _) (Nat.le_refl _) (by omega) (src := ⟨g, 0, none⟩) (m := i) rfl (by omega) HTL.out HC1.out (flatA_one _) ?_; intro v1 w1 ho1 hb1 hz1 _ _; rw [Nat.zero_add, List.nil_append] at ho1; obtain ⟨a1, c1, rfl⟩ := own_form ho1; have d89 := (HKW.out w1 hb1).k.cQ; have e89 := (HKW.out w1 hb1).k.frozen 1189; have HO1 := Hid.mk ho1; have HB1 := Hid.mk hb1; clear ho1 hb1)
      | (at_builtin; refine wpList_appN rfl _ _ _ rfl Tryz.underlying169 Tryz.infoAskD rfl (by decide) (by decide) (n := i) rfl HO1.out (by omega) (by omega) (src := ⟨g, (i + 1) * 7, none⟩) (m := n - (i + 1)) rfl (by omega) HDL.out (HC2.out w1 HB1.out) (flatA_one _) ?_; intro v2 w2 ho2 hb2 hz2 _ _; obtain ⟨a2, c2, rfl⟩ := own_form ho2; have f89 := (HKW.out w2 (HB1.out.trans hb2)).k.cQ; have g89 := (HKW.out w2 (HB1.out.trans hb2)).k.frozen 1189; have HO2 := Hid.mk ho2; have HB2 := Hid.mk hb2; clear ho2 hb2))
    go_end0
    exact ⟨rfl, HFIN.out _ w1 w2 HB1.out HO2.out HB2.out⟩
end Go.Proofs.YtaicdjhblbobbaaGreat

/- Contracts of the document's answer, on: ranges, and what is asked for. -/
namespace Go.Proofs.YtaicdjhblbobbaaGreat
open Go.RowKit Go.Lib

theorem tuple3 {x y : Value} {b c : Bool} (h : b = c) : Value.tuple #[x, y, .bool b] = Value.tuple #[x, y, .bool c] := by rw [h]
set_option maxHeartbeats 4000000 in
set_option maxRecDepth 100000 in
theorem dSpan_any (f l : Int) (w : World) :
    Calls Tryz.prog 167 #[.int .i64 f, .int .i64 l] w fun e w' => ∃ a b, e = .returned (.tuple #[.int .i64 a, .int .i64 b, .bool (!badS f l)]) ∧ (badS f l = false → a = fromS f l ∧ b = toS f l) ∧ w' = w := by
  have HB := Hid.mk (show badS f l = (decide (f < 0) || decide (64 < f) || decide (l < -64) || decide (64 < l) || (decide (l = 0) && decide (63 < f)) || (decide (0 < l) && decide (64 < f + l)) || (decide (l < 0) && decide (f + l < 0))) from rfl)
  have HF := Hid.mk (show fromS f l = if l < 0 then f + l else f from rfl)
  have HT := Hid.mk (show toS f l = if l = 0 then 63 else if 0 < l then f + l - 1 else f - 1 from rfl)
  generalize badS f l = B at *
  generalize fromS f l = F at *
  generalize toS f l = T at *
  by_cases h1 : f < 0
  · go_enter Tryz.func167, Tryz.ntmps167
    go_wp2
    go_ret3
    exact ⟨0, 0, by rw [HB.out]; simp [h1], fun e => by rw [HB.out] at e; simp [h1] at e, rfl⟩
  by_cases h2 : 64 < f
  · go_enter Tryz.func167, Tryz.ntmps167
    go_wp2
    go_ret3
    exact ⟨0, 0, by rw [HB.out]; simp [h2], fun e => by rw [HB.out] at e; simp [h2] at e, rfl⟩
  by_cases h3 : 64 < l
  · go_enter Tryz.func167, Tryz.ntmps167
    go_wp2
    go_ret3
    exact ⟨0, 0, by rw [HB.out]; simp [h3], fun e => by rw [HB.out] at e; simp [h3] at e, rfl⟩
  by_cases h4 : l < -64
  · go_enter Tryz.func167, Tryz.ntmps167
    go_wp2
    go_ret3
    exact ⟨0, 0, by rw [HB.out]; simp [h4], fun e => by rw [HB.out] at e; simp [h4] at e, rfl⟩
  by_cases h5 : 0 < l
  · have h6 : ¬ l < 0 := by omega
    go_enter Tryz.func167, Tryz.ntmps167
    go_wp2
    all_goals (go_ret3; refine ⟨_, _, ret_val (tuple3 ?_), fun _ => ⟨?_, ?_⟩, rfl⟩)
    all_goals first | (rw [HB.out, Bool.eq_iff_iff]; simp; omega) | (rw [HF.out]; split <;> omega) | (rw [HT.out]; (repeat' split) <;> omega)
  · by_cases h6 : l < 0
    · go_enter Tryz.func167, Tryz.ntmps167
      go_wp2
      all_goals (go_ret3; refine ⟨_, _, ret_val (tuple3 ?_), fun _ => ⟨?_, ?_⟩, rfl⟩)
      all_goals first | (rw [HB.out, Bool.eq_iff_iff]; simp; omega) | (rw [HF.out]; split <;> omega) | (rw [HT.out]; (repeat' split) <;> omega)
    · go_enter Tryz.func167, Tryz.ntmps167
      go_wp2
      all_goals (go_ret3; refine ⟨_, _, ret_val (tuple3 ?_), fun _ => ⟨?_, ?_⟩, rfl⟩)
      all_goals first | (rw [HB.out, Bool.eq_iff_iff]; simp; omega) | (rw [HF.out]; split <;> omega) | (rw [HT.out]; (repeat' split) <;> omega)

def zeroAV : Value := .agg #[.int .i64 0, .int .i64 0, .int .i64 0, .bool false, .int .i64 0, .int .i64 0, .int .i64 0]
section
variable {w : World} {db : Nat} {P : Nat → Prop} {d : DK} {ov qv : Value} (h : DV w db P d ov qv) (hs : d.Sm) (p e k f l m : Int)
include h hs
set_option maxHeartbeats 4000000 in
set_option maxRecDepth 100000 in
theorem dAsked_fd (he : (d.fd p e).2 ≠ 0) :
    Calls Tryz.prog 139 #[dkPtr db, .int .i64 p, .int .i64 e, .int .i64 k, .int .i64 f, .int .i64 l, .int .i64 m] w fun r w' => r = .returned (.tuple #[zeroAV, .int .i64 (d.fd p e).2]) ∧ Below w.heap.size w w' := by
  have hbx := (Below.refl w.heap.size w).alloc (Nat.le_refl _) (.cells #[.int .i64 0, .int .i64 0, .int .i64 0, .bool false, .int .i64 0, .int .i64 0, .int .i64 0] 218)
  have HF := Hid.mk (dFd_any (h.below hbx) hs p e)
  have HB := Hid.mk hbx
  clear h hs hbx
  unfold dkPtr zeroAV at *
  generalize (d.fd p e).1 = o at *
  generalize (d.fd p e).2 = x at *
  have hx : (x != 0) = true := by simpa using he
  clear he
  go_enter Tryz.func139, Tryz.ntmps139
  go_wp2_with (go_at_call 138; refine HF.out.mono ?_; rintro r w1 ⟨rfl, hw⟩; have hw2 := hw.symm; clear hw; subst hw2)
  exact bodyPost_ret (v := .tuple #[.agg #[.int .i64 0, .int .i64 0, .int .i64 0, .bool false, .int .i64 0, .int .i64 0, .int .i64 0], .int .i64 x]) (by simp [results, Tryz.results139, go_sem]) rfl ⟨rfl, HB.out⟩
set_option maxHeartbeats 4000000 in
set_option maxRecDepth 100000 in
theorem dAsked_kind (he : (d.fd p e).2 = 0) (hk : k < m ∨ 2 < k) :
    Calls Tryz.prog 139 #[dkPtr db, .int .i64 p, .int .i64 e, .int .i64 k, .int .i64 f, .int .i64 l, .int .i64 m] w fun r w' => r = .returned (.tuple #[zeroAV, .int .i64 6]) ∧ Below w.heap.size w w' := by
  have hbx := (Below.refl w.heap.size w).alloc (Nat.le_refl _) (.cells #[.int .i64 0, .int .i64 0, .int .i64 0, .bool false, .int .i64 0, .int .i64 0, .int .i64 0] 218)
  have HF := Hid.mk (dFd_any (h.below hbx) hs p e)
  have HB := Hid.mk hbx
  clear h hs hbx
  unfold dkPtr zeroAV at *
  generalize (d.fd p e).1 = o at *
  generalize (d.fd p e).2 = x at *
  subst he
  by_cases hm : k < m
  · clear hk
    go_enter Tryz.func139, Tryz.ntmps139
    go_wp2_with (go_at_call 138; refine HF.out.mono ?_; rintro r w1 ⟨rfl, hw⟩; have hw2 := hw.symm; clear hw; subst hw2)
    exact bodyPost_ret (v := .tuple #[.agg #[.int .i64 0, .int .i64 0, .int .i64 0, .bool false, .int .i64 0, .int .i64 0, .int .i64 0], .int .i64 6]) (by simp [results, Tryz.results139, go_sem]) rfl ⟨rfl, HB.out⟩
  · have h2 : 2 < k := by omega
    clear hk
    go_enter Tryz.func139, Tryz.ntmps139
    go_wp2_with (go_at_call 138; refine HF.out.mono ?_; rintro r w1 ⟨rfl, hw⟩; have hw2 := hw.symm; clear hw; subst hw2)
    exact bodyPost_ret (v := .tuple #[.agg #[.int .i64 0, .int .i64 0, .int .i64 0, .bool false, .int .i64 0, .int .i64 0, .int .i64 0], .int .i64 6]) (by simp [results, Tryz.results139, go_sem]) rfl ⟨rfl, HB.out⟩
set_option maxHeartbeats 4000000 in
set_option maxRecDepth 100000 in
theorem dAsked_range (he : (d.fd p e).2 = 0) (hk : m ≤ k ∧ k ≤ 2) (hr : badS f l = true) :
    Calls Tryz.prog 139 #[dkPtr db, .int .i64 p, .int .i64 e, .int .i64 k, .int .i64 f, .int .i64 l, .int .i64 m] w fun r w' => r = .returned (.tuple #[zeroAV, .int .i64 7]) ∧ Below w.heap.size w w' := by
  have hbx := (Below.refl w.heap.size w).alloc (Nat.le_refl _) (.cells #[.int .i64 0, .int .i64 0, .int .i64 0, .bool false, .int .i64 0, .int .i64 0, .int .i64 0] 218)
  have HF := Hid.mk (dFd_any (h.below hbx) hs p e)
  have HS := Hid.mk (fun W => dSpan_any f l W)
  rw [hr] at HS
  have HB := Hid.mk hbx
  clear h hs hbx
  unfold dkPtr zeroAV at *
  generalize (d.fd p e).1 = o at *
  generalize (d.fd p e).2 = x at *
  subst he
  have h1 : ¬ k < m := by omega
  have h2 : ¬ 2 < k := by omega
  clear hk hr
  go_enter Tryz.func139, Tryz.ntmps139
  go_wp2_with (first | (go_at_call 138; refine HF.out.mono ?_; rintro r w1 ⟨rfl, hw⟩; have hw2 := hw.symm; clear hw; subst hw2) | (go_at_call 167; refine (HS.out _).mono ?_; rintro r w1 ⟨sa, sb, rfl, hss, hw⟩; have HSS := Hid.mk hss; clear hss; have hw2 := hw.symm; clear hw; subst hw2))
  exact bodyPost_ret (v := .tuple #[.agg #[.int .i64 0, .int .i64 0, .int .i64 0, .bool false, .int .i64 0, .int .i64 0, .int .i64 0], .int .i64 7]) (by simp [results, Tryz.results139, go_sem]) rfl ⟨rfl, HB.out⟩
set_option maxHeartbeats 4000000 in
set_option maxRecDepth 100000 in
theorem dAsked_ok (he : (d.fd p e).2 = 0) {o : Nat} (ho : (d.fd p e).1 = o) (hlt : o < d.O.length) {fl : Nat} (hfl : d.file o = fl) (hk : m ≤ k ∧ k ≤ 2) (hr : badS f l = false) :
    Calls Tryz.prog 139 #[dkPtr db, .int .i64 p, .int .i64 e, .int .i64 k, .int .i64 f, .int .i64 l, .int .i64 m] w fun r w' => r = .returned (.tuple #[dAskV ⟨p, k, fl, false, o, fromS f l, toS f l⟩, .int .i64 0]) ∧ Below w.heap.size w w' := by
  have hbx := (Below.refl w.heap.size w).alloc (Nat.le_refl _) (.cells #[.int .i64 0, .int .i64 0, .int .i64 0, .bool false, .int .i64 0, .int .i64 0, .int .i64 0] 218)
  have HF := Hid.mk (dFd_any (h.below hbx) hs p e)
  have HS := Hid.mk (fun W => dSpan_any f l W)
  rw [hr] at HS
  obtain ⟨a, c, rfl⟩ := own_form h.o
  obtain ⟨x, hx⟩ : ∃ x, d.O[o]? = some x := ⟨_, List.getElem?_eq_getElem hlt⟩
  have hq := (h.below hbx).k.cO
  obtain ⟨g, rfl, hg, hk1, _, _⟩ := ogAt (h.below hbx).o hx
  rw [show x.f = fl by rw [← hfl, DK.file_set hx]] at hk1
  have hol := hs.o
  have hdb := (h.below hbx).k.lt
  have hdw := h.k.lt
  have hgw : g < w.heap.size := by
    obtain ⟨g', e', hg', _⟩ := ogAt h.o hx
    cases e'; exact hg'
  rw [ho] at HF
  have HB := Hid.mk hbx
  have hlt' : (o : Int) < (d.O.length : Int) := by omega
  clear h hs hbx hx
  unfold dkPtr dAskV at *
  simp only
  generalize (d.fd p e).2 = y at *
  subst he
  have h1 : ¬ k < m := by omega
  have h2 : ¬ 2 < k := by omega
  generalize fromS f l = F at *
  generalize toS f l = T at *
  generalize d.O.length = N at *
  clear hk hr ho hfl
  go_enter Tryz.func139, Tryz.ntmps139
  go_wp2_with (first | (go_at_call 138; refine HF.out.mono ?_; rintro r w1 ⟨rfl, hw⟩; have hw2 := hw.symm; clear hw; subst hw2) | (go_at_call 167; refine (HS.out _).mono ?_; rintro r w1 ⟨sa, sb, rfl, hss, hw⟩; obtain ⟨rfl, rfl⟩ := hss (by trivial); have hw2 := hw.symm; clear hw; subst hw2))
  exact bodyPost_ret (v := .tuple #[.agg #[.int .i64 p, .int .i64 k, .int .i64 (fl : Int), .bool false, .int .i64 (o : Int), .int .i64 sa, .int .i64 sb], .int .i64 0]) (by simp [results, Tryz.results139, go_sem]) rfl ⟨rfl, by first | exact (Below.refl _ _).alloc (Nat.le_refl _) _ | (repeat (first | exact HB.out | refine Below.setCell ?_ (Nat.le_refl _) _))⟩
end
end Go.Proofs.YtaicdjhblbobbaaGreat
