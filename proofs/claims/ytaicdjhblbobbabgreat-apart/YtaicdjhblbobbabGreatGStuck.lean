/- Contracts of package stuck: is one of the set, are all of them. -/
import Derived.Test.YtaicdjhblbobbabGreatGDel
namespace Go.Proofs.YtaicdjhblbobbabGreat
open Go.RowKit Go.Lib

/-- A list of lists of numbers lies behind u. -/
structure WaysAt (w : World) (u : Value) (L : List (List Int)) (us : List Value) : Prop where
  len : us.length = L.length
  own : w.ownsRow 0 22 1 u L.length us
  each : ∀ (j : Nat) c t, L[j]? = some c → us[j]? = some t → w.ownsRow 0 3 1 t c.length (ints c)
theorem WaysAt.below {w w' : World} {u : Value} {L : List (List Int)} {us : List Value} (h : WaysAt w u L us) (hb : Below w.heap.size w w') : WaysAt w' u L us :=
  ⟨h.len, own_below h.own hb, fun j c t h1 h2 => own_below (h.each j c t h1 h2) hb⟩
def flatWt : List Wt → List Value → List Value
  | x :: l, u :: us => .int .i64 x.1 :: u :: flatWt l us
  | _, _ => []
theorem flatWt_len : ∀ (l : List Wt) (us : List Value), us.length = l.length → (flatWt l us).length = l.length * 2
  | [], us, _ => by simp [flatWt]
  | x :: l, [], h => by simp at h
  | x :: l, u :: us, h => by have := flatWt_len l us (by simpa using h); simp [flatWt]; omega
theorem flatWt_get : ∀ (l : List Wt) (us : List Value) (i : Nat) (x : Wt) (u : Value), l[i]? = some x → us[i]? = some u → (flatWt l us)[i * 2]? = some (.int .i64 x.1) ∧ (flatWt l us)[i * 2 + 1]? = some u
  | [], us, i, x, u, h, _ => by simp at h
  | d :: l, [], i, x, u, _, h => by simp at h
  | d :: l, v :: us, 0, x, u, h, g => by simp at h g; subst h g; simp [flatWt]
  | d :: l, v :: us, i + 1, x, u, h, g => by
    have := flatWt_get l us i x u (by simpa using h) (by simpa using g)
    rw [show (i + 1) * 2 = i * 2 + 1 + 1 by omega]
    simpa [flatWt] using this
theorem flatWt_snoc : ∀ (l : List Wt) (us : List Value) (x : Wt) (u : Value), us.length = l.length → flatWt (l ++ [x]) (us ++ [u]) = flatWt l us ++ [.int .i64 x.1, u]
  | [], us, x, u, h => by
    have : us = [] := List.eq_nil_of_length_eq_zero h
    subst this; rfl
  | d :: l, [], x, u, h => by simp at h
  | d :: l, v :: us, x, u, h => by
    have := flatWt_snoc l us x u (by simpa using h)
    simp [flatWt, this]
/-- Those that wait lie behind v. -/
structure WtAt (base : Nat) (w : World) (v : Value) (l : List Wt) (us : List Value) : Prop where
  len : us.length = l.length
  own : w.ownsRow base 150 2 v l.length (flatWt l us)
  each : ∀ (i : Nat) x u, l[i]? = some x → us[i]? = some u → ∃ ts, WaysAt w u x.2 ts
theorem WtAt.below {base : Nat} {w w' : World} {v : Value} {l : List Wt} {us : List Value} (h : WtAt base w v l us) (hb : Below w.heap.size w w') : WtAt base w' v l us :=
  ⟨h.len, own_below h.own hb, fun i x u h1 h2 => by obtain ⟨ts, ht⟩ := h.each i x u h1 h2; exact ⟨ts, ht.below hb⟩⟩
theorem WtAt.mono {base base' : Nat} {w : World} {v : Value} {l : List Wt} {us : List Value} (h : WtAt base w v l us) (hb : base' ≤ base) : WtAt base' w v l us := ⟨h.len, own_mono h.own hb, h.each⟩
theorem WtAt.get {base : Nat} {w : World} {a : Option Addr} {c : Nat} {l : List Wt} {us : List Value} {n : Nat} {x : Wt} (h : WtAt base w (.slice a l.length c) l us) (hx : l[n]? = some x) :
    ∃ g u, a = some ⟨g, 0, none⟩ ∧ base ≤ g ∧ g < w.heap.size ∧ us[n]? = some u ∧ w.cell? ⟨g, n * 2, none⟩ = some (.int .i64 x.1) ∧ w.cell? ⟨g, n * 2 + 1, none⟩ = some u := by
  have hlt : n < l.length := (List.getElem?_eq_some_iff.1 hx).1
  have hl := h.len
  obtain ⟨g, h1, h2, hg, hc, hcell⟩ := own_some h.own (by omega)
  have hu : us[n]? = some us[n] := List.getElem?_eq_getElem (by omega)
  obtain ⟨f0, f1⟩ := flatWt_get l us n x _ hx hu
  exact ⟨g, _, h1, h2, hg, hu, (hcell _ (by omega)).trans f0, (hcell _ (by omega)).trans f1⟩
theorem idxF_any {α : Type} (l : List α) (f : α → Bool) : decide (0 ≤ idxF l f) = l.any f := by
  unfold idxF
  cases hf : l.findIdx? f with
  | none =>
    have := List.findIdx?_eq_none_iff.1 hf
    rw [Bool.eq_iff_iff]
    simp only [decide_eq_true_eq, List.any_eq_true]
    constructor
    · intro h; omega
    · rintro ⟨x, hx, hx2⟩
      have := this x hx
      rw [this] at hx2; cases hx2
  | some n =>
    obtain ⟨hn, h1, _⟩ := List.findIdx?_eq_some_iff_getElem.1 hf
    rw [Bool.eq_iff_iff]
    simp only [decide_eq_true_eq, List.any_eq_true]
    exact ⟨fun _ => ⟨l[n], List.getElem_mem hn, h1⟩, fun _ => by omega⟩

set_option maxHeartbeats 4000000 in
set_option maxRecDepth 100000 in
theorem tIndexFunc_any {v : Value} {l : List Wt} {us : List Value} (f : Wt → Bool) {w : World} (g : Nat) (lb : Array Value) (eg : ∀ args w, (callFunc g args).run Tryz.prog w = .ok (.enter g args) w)
    (hv : WtAt 0 w v l us) (hl : l.length < 1000)
    (hp : ∀ (W : World) (x : Wt) (u : Value), x ∈ l → Below w.heap.size w W → Calls Tryz.prog g (#[.agg #[.int .i64 x.1, u]] ++ lb) W fun e w' => e = .returned (.bool (f x)) ∧ Below W.heap.size W w') :
    Calls Tryz.prog 150 #[v, .func (.func g) #[] lb] w fun e w' => e = .returned (.int .i64 (idxF l f)) ∧ Below w.heap.size w w' := by
  obtain ⟨a, c, rfl⟩ := own_form hv.own
  have HV := Hid.mk hv
  have HP := Hid.mk hp
  clear hv hp
  go_enter Tryz.func150, Tryz.ntmps150
  go_wp2
  go_loopw [5, 8] (fun _ s8 wr => ∃ n : Nat, s8 = .int .i64 n ∧ n ≤ l.length ∧ Hid (∀ (j : Nat) (y : Wt), j < n → l[j]? = some y → f y = false) ∧ Hid (Below w.heap.size w wr)) (fun _ s8 _ => l.length - (intOf s8).toNat)
  case atStart => exact ⟨0, rfl, Nat.zero_le _, fun j y hj => absurd hj (Nat.not_lt_zero _), Below.refl _ _⟩
  case round =>
    obtain ⟨n, rfl, hn, HF, HB⟩ := hrel
    have hsz : w.heap.size ≤ wr.heap.size := HB.out.size
    by_cases hlt : n < l.length
    · obtain ⟨x, hx⟩ : ∃ x, l[n]? = some x := ⟨_, List.getElem?_eq_getElem hlt⟩
      obtain ⟨gb, u, rfl, _, hg, _, k0, k1⟩ := HV.out.get hx
      have c0 := (HB.out.cell (p := ⟨gb, n * 2, none⟩) hg).trans k0
      have c1 := (HB.out.cell (p := ⟨gb, n * 2 + 1, none⟩) hg).trans k1
      have hlt' : (n : Int) < (l.length : Int) := by omega
      have hgw : gb < wr.heap.size := by omega
      have HC := Hid.mk (HP.out wr x u (List.mem_of_getElem? hx) HB.out)
      have HX := Hid.mk hx
      clear hx k0 k1
      cases hbt : f x
      · have HT := Hid.mk hbt
        rw [hbt] at HC
        clear hbt
        go_wp2_with (go_at_fn g; refine HC.out.mono ?_; rintro e w1 ⟨rfl, hb2⟩; have HB2 := Hid.mk hb2; clear hb2)
        go_roundw
        case rel =>
          refine ⟨n + 1, by go_num, by omega, fun j y hj hy => ?_, HB.out.trans (HB2.out.mono hsz)⟩
          by_cases e : j = n
          · subst e
            rw [HX.out] at hy
            cases hy
            exact HT.out
          · exact HF.out j y (by omega) hy
        case measure => simp [intOf]; omega
      · have HT := Hid.mk hbt
        rw [hbt] at HC
        clear hbt
        go_wp2_with (go_at_fn g; refine HC.out.mono ?_; rintro e w1 ⟨rfl, hb2⟩; have HB2 := Hid.mk hb2; clear hb2)
        go_ret
        exact ⟨ret_i64 (idxF_hit HX.out HT.out HF.out).symm, HB.out.trans (HB2.out.mono hsz)⟩
    · obtain rfl : n = l.length := by omega
      go_wp2
      go_ret
      exact ⟨ret_i64 (idxF_miss fun j y hy => HF.out j y (List.getElem?_eq_some_iff.1 hy).1 hy).symm, HB.out⟩

set_option maxHeartbeats 1000000 in
set_option maxRecDepth 100000 in
theorem tContainsFunc_any {v : Value} {l : List Wt} {us : List Value} (f : Wt → Bool) {w : World} (g : Nat) (lb : Array Value) (eg : ∀ args w, (callFunc g args).run Tryz.prog w = .ok (.enter g args) w)
    (hv : WtAt 0 w v l us) (hl : l.length < 1000)
    (hp : ∀ (W : World) (x : Wt) (u : Value), x ∈ l → Below w.heap.size w W → Calls Tryz.prog g (#[.agg #[.int .i64 x.1, u]] ++ lb) W fun e w' => e = .returned (.bool (f x)) ∧ Below W.heap.size W w') :
    Calls Tryz.prog 146 #[v, .func (.func g) #[] lb] w fun e w' => e = .returned (.bool (l.any f)) ∧ Below w.heap.size w w' := by
  have HI := Hid.mk (tIndexFunc_any f g lb eg hv hl hp)
  have HA := Hid.mk (idxF_any l f)
  clear hv hp
  generalize idxF l f = I at *
  go_enter Tryz.func146, Tryz.ntmps146
  go_wp2_with (go_at_call 150; refine HI.out.mono ?_; rintro e w1 ⟨rfl, hb1⟩; have HB1 := Hid.mk hb1; clear hb1)
  go_ret
  exact ⟨ret_bool (by rw [← HA.out]), HB1.out⟩

set_option maxHeartbeats 1000000 in
set_option maxRecDepth 100000 in
theorem allOf1_any (p : Int) (u : Value) (q : Int) (B : Nat) (W : World) (hB : B < W.heap.size) (hc : W.cell? ⟨B, 0, none⟩ = some (.int .i64 q)) :
    Calls Tryz.prog 147 (#[.agg #[.int .i64 p, u]] ++ #[.pointer (some ⟨B, 0, none⟩)]) W fun e w' => e = .returned (.bool (decide (p = q))) ∧ Below W.heap.size W w' := by
  show Calls Tryz.prog 147 #[_, _] W _
  go_enter Tryz.func147, Tryz.ntmps147
  go_wp2
  go_ret
  exact ⟨ret_bool (by rw [Bool.eq_iff_iff]; simp), (Below.refl _ _).alloc (Nat.le_refl _) _⟩
end Go.Proofs.YtaicdjhblbobbabGreat

/- Contracts of package stuck, on: who is bound, and the greatest set. -/
namespace Go.Proofs.YtaicdjhblbobbabGreat
open Go.RowKit Go.Lib

theorem any_mem (l : List Wt) (q : Int) : (l.any fun x => decide (x.1 = q)) = decide (q ∈ l.map (·.1)) := by
  rw [Bool.eq_iff_iff]; simp

set_option maxHeartbeats 4000000 in
set_option maxRecDepth 100000 in
theorem allOf_any {v : Value} {l : List Wt} {us : List Value} {pv : Value} {ps : List Int} {w : World} (hv : WtAt 0 w v l us) (hl : l.length < 1000) (hps : w.ownsRow 0 3 1 pv ps.length (ints ps)) (hpl : ps.length < 1000) :
    Calls Tryz.prog 134 #[pv, v] w fun e w' => e = .returned (.bool (ps.all fun q => decide (q ∈ l.map (·.1)))) ∧ Below w.heap.size w w' := by
  obtain ⟨a, c, rfl⟩ := own_form hps
  have HP := Hid.mk hps
  have HC := Hid.mk (fun (W : World) (B : Nat) (q : Int) (hW : Below w.heap.size w W) (hB : B < W.heap.size) (hc : W.cell? ⟨B, 0, none⟩ = some (.int .i64 q)) =>
    tContainsFunc_any (fun x => decide (x.1 = q)) (w := W) 147 #[.pointer (some ⟨B, 0, none⟩)] (enters_of Tryz.func147 (by kernel_rfl) rfl) (hv.below hW) hl
      (fun W' x u _ hW' => allOf1_any x.1 u q B W' (by have := hW'.size; omega) ((hW'.cell (p := ⟨B, 0, none⟩) hB).trans hc)))
  clear hv hps
  go_enter Tryz.func134, Tryz.ntmps134
  go_wp2
  go_loopw [6, 9] (fun _ s9 wr => ∃ n : Nat, s9 = .int .i64 n ∧ n ≤ ps.length ∧ Hid (∀ (j : Nat) (y : Int), j < n → ps[j]? = some y → y ∈ l.map (·.1)) ∧ Hid (Below w.heap.size w wr)) (fun _ s9 _ => ps.length - (intOf s9).toNat)
  case atStart => exact ⟨0, rfl, Nat.zero_le _, fun j y hj => absurd hj (Nat.not_lt_zero _), Below.refl _ _⟩
  case round =>
    obtain ⟨n, rfl, hn, HF, HB⟩ := hrel
    have hsz : w.heap.size ≤ wr.heap.size := HB.out.size
    by_cases hlt : n < ps.length
    · obtain ⟨x, hx⟩ : ∃ x, ps[n]? = some x := ⟨_, List.getElem?_eq_getElem hlt⟩
      obtain ⟨gb, rfl, _, hg, _, hcell⟩ := own_some HP.out (by omega)
      have c0 : wr.cell? ⟨gb, n, none⟩ = some (.int .i64 x) := (HB.out.cell (p := ⟨gb, n, none⟩) hg).trans ((hcell n (by omega)).trans (ints_get hx))
      have hlt' : (n : Int) < (ps.length : Int) := by omega
      have hgw : gb < wr.heap.size := by omega
      have HX := Hid.mk hx
      have hCC := HC.out (wr.alloc (.cells #[.int .i64 x] 3)) wr.heap.size x (HB.out.alloc hsz _) (by simp) (by simp)
      rw [any_mem] at hCC
      have HCC := Hid.mk hCC
      clear hx hcell hCC
      by_cases hm : x ∈ l.map (·.1)
      · have HM := Hid.mk hm
        have hd : decide (x ∈ l.map (·.1)) = true := by simpa using hm
        rw [hd] at HCC
        clear hm hd
        go_wp2_with (go_at_call 146; refine HCC.out.mono ?_; rintro e w1 ⟨rfl, hb2⟩; have HB2 := Hid.mk hb2; clear hb2)
        go_roundw
        case rel =>
          refine ⟨n + 1, by go_num, by omega, fun j y hj hy => ?_, (HB.out.alloc hsz _).trans (HB2.out.mono (by simp; omega))⟩
          by_cases e : j = n
          · subst e
            rw [HX.out] at hy
            cases hy
            exact HM.out
          · exact HF.out j y (by omega) hy
        case measure => simp [intOf]; omega
      · have HM := Hid.mk hm
        have hd : decide (x ∈ l.map (·.1)) = false := by simpa using hm
        rw [hd] at HCC
        clear hm hd
        go_wp2_with (go_at_call 146; refine HCC.out.mono ?_; rintro e w1 ⟨rfl, hb2⟩; have HB2 := Hid.mk hb2; clear hb2)
        go_ret
        refine ⟨ret_bool ?_, (HB.out.alloc hsz _).trans (HB2.out.mono (by simp; omega))⟩
        symm
        rw [List.all_eq_false]
        exact ⟨x, List.mem_of_getElem? HX.out, by simpa using HM.out⟩
    · obtain rfl : n = ps.length := by omega
      go_wp2
      go_ret
      refine ⟨ret_bool ?_, HB.out⟩
      symm
      rw [List.all_eq_true]
      intro q hq
      obtain ⟨j, hj⟩ := List.mem_iff_getElem?.1 hq
      exact decide_eq_true (HF.out j q (List.getElem?_eq_some_iff.1 hj).1 hj)

set_option maxHeartbeats 4000000 in
set_option maxRecDepth 100000 in
theorem wIndexFunc_any {v : Value} {L : List (List Int)} {us : List Value} (f : List Int → Bool) {w : World} (g : Nat) (lb : Array Value) (eg : ∀ args w, (callFunc g args).run Tryz.prog w = .ok (.enter g args) w)
    (hv : WaysAt w v L us) (hl : L.length < 1000)
    (hp : ∀ (W : World) (c : List Int) (t : Value), c ∈ L → w.ownsRow 0 3 1 t c.length (ints c) → Below w.heap.size w W → Calls Tryz.prog g (#[t] ++ lb) W fun e w' => e = .returned (.bool (f c)) ∧ Below W.heap.size W w') :
    Calls Tryz.prog 145 #[v, .func (.func g) #[] lb] w fun e w' => e = .returned (.int .i64 (idxF L f)) ∧ Below w.heap.size w w' := by
  obtain ⟨a, c, rfl⟩ := own_form hv.own
  have HV := Hid.mk hv
  have HP := Hid.mk hp
  clear hv hp
  go_enter Tryz.func145, Tryz.ntmps145
  go_wp2
  go_loopw [5, 8] (fun _ s8 wr => ∃ n : Nat, s8 = .int .i64 n ∧ n ≤ L.length ∧ Hid (∀ (j : Nat) (y : List Int), j < n → L[j]? = some y → f y = false) ∧ Hid (Below w.heap.size w wr)) (fun _ s8 _ => L.length - (intOf s8).toNat)
  case atStart => exact ⟨0, rfl, Nat.zero_le _, fun j y hj => absurd hj (Nat.not_lt_zero _), Below.refl _ _⟩
  case round =>
    obtain ⟨n, rfl, hn, HF, HB⟩ := hrel
    have hsz : w.heap.size ≤ wr.heap.size := HB.out.size
    by_cases hlt : n < L.length
    · obtain ⟨x, hx⟩ : ∃ x, L[n]? = some x := ⟨_, List.getElem?_eq_getElem hlt⟩
      obtain ⟨gb, rfl, _, hg, _, hcell⟩ := own_some HV.out.own (by omega)
      have hul := HV.out.len
      have hu : us[n]? = some us[n] := List.getElem?_eq_getElem (by omega)
      have c0 := (HB.out.cell (p := ⟨gb, n, none⟩) hg).trans ((hcell n (by omega)).trans hu)
      have HC := Hid.mk (HP.out wr x _ (List.mem_of_getElem? hx) (HV.out.each n x _ hx hu) HB.out)
      generalize us[n] = t at *
      have hlt' : (n : Int) < (L.length : Int) := by omega
      have hgw : gb < wr.heap.size := by omega
      have HX := Hid.mk hx
      clear hx hcell hu
      cases hbt : f x
      · have HT := Hid.mk hbt
        rw [hbt] at HC
        clear hbt
        go_wp2_with (go_at_fn g; refine HC.out.mono ?_; rintro e w1 ⟨rfl, hb2⟩; have HB2 := Hid.mk hb2; clear hb2)
        go_roundw
        case rel =>
          refine ⟨n + 1, by go_num, by omega, fun j y hj hy => ?_, HB.out.trans (HB2.out.mono hsz)⟩
          by_cases e : j = n
          · subst e
            rw [HX.out] at hy
            cases hy
            exact HT.out
          · exact HF.out j y (by omega) hy
        case measure => simp [intOf]; omega
      · have HT := Hid.mk hbt
        rw [hbt] at HC
        clear hbt
        go_wp2_with (go_at_fn g; refine HC.out.mono ?_; rintro e w1 ⟨rfl, hb2⟩; have HB2 := Hid.mk hb2; clear hb2)
        go_ret
        exact ⟨ret_i64 (idxF_hit HX.out HT.out HF.out).symm, HB.out.trans (HB2.out.mono hsz)⟩
    · obtain rfl : n = L.length := by omega
      go_wp2
      go_ret
      exact ⟨ret_i64 (idxF_miss fun j y hy => HF.out j y (List.getElem?_eq_some_iff.1 hy).1 hy).symm, HB.out⟩

set_option maxHeartbeats 1000000 in
set_option maxRecDepth 100000 in
theorem wContainsFunc_any {v : Value} {L : List (List Int)} {us : List Value} (f : List Int → Bool) {w : World} (g : Nat) (lb : Array Value) (eg : ∀ args w, (callFunc g args).run Tryz.prog w = .ok (.enter g args) w)
    (hv : WaysAt w v L us) (hl : L.length < 1000)
    (hp : ∀ (W : World) (c : List Int) (t : Value), c ∈ L → w.ownsRow 0 3 1 t c.length (ints c) → Below w.heap.size w W → Calls Tryz.prog g (#[t] ++ lb) W fun e w' => e = .returned (.bool (f c)) ∧ Below W.heap.size W w') :
    Calls Tryz.prog 132 #[v, .func (.func g) #[] lb] w fun e w' => e = .returned (.bool (L.any f)) ∧ Below w.heap.size w w' := by
  have HI := Hid.mk (wIndexFunc_any f g lb eg hv hl hp)
  have HA := Hid.mk (idxF_any L f)
  clear hv hp
  generalize idxF L f = I at *
  go_enter Tryz.func132, Tryz.ntmps132
  go_wp2_with (go_at_call 145; refine HI.out.mono ?_; rintro e w1 ⟨rfl, hb1⟩; have HB1 := Hid.mk hb1; clear hb1)
  go_ret
  exact ⟨ret_bool (by rw [← HA.out]), HB1.out⟩

/-- Lists of processes that are short. -/
def Wt.short (x : Wt) : Prop := x.2.length < 1000 ∧ ∀ c, c ∈ x.2 → c.length < 1000

set_option maxHeartbeats 1000000 in
set_option maxRecDepth 100000 in
theorem boundBy1_any {v : Value} {l : List Wt} {us : List Value} (t : Value) (ps : List Int) (B : Nat) {W : World} (hv : WtAt 0 W v l us) (hl : l.length < 1000) (ht : W.ownsRow 0 3 1 t ps.length (ints ps)) (hpl : ps.length < 1000) (hc : W.cell? ⟨B, 0, none⟩ = some v) :
    Calls Tryz.prog 133 (#[t] ++ #[.pointer (some ⟨B, 0, none⟩)]) W fun e w' => e = .returned (.bool (ps.all fun q => decide (q ∈ l.map (·.1)))) ∧ Below W.heap.size W w' := by
  show Calls Tryz.prog 133 #[_, _] W _
  have HA := Hid.mk (allOf_any hv hl ht hpl)
  obtain ⟨a, c, rfl⟩ := own_form hv.own
  clear hv ht
  generalize (ps.all fun q => decide (q ∈ l.map (·.1))) = R at *
  go_enter Tryz.func133, Tryz.ntmps133
  go_wp2_with (go_at_call 134; refine HA.out.mono ?_; rintro e w1 ⟨rfl, hb1⟩; have HB1 := Hid.mk hb1; clear hb1)
  go_ret
  exact ⟨rfl, HB1.out⟩

set_option maxHeartbeats 1000000 in
set_option maxRecDepth 100000 in
theorem boundBy_any {v : Value} {l : List Wt} {us : List Value} (x : Wt) (u : Value) (ts : List Value) {w : World} (hv : WtAt 0 w v l us) (hl : l.length < 1000) (hx : x.short) (hu : WaysAt w u x.2 ts) :
    Calls Tryz.prog 117 #[.agg #[.int .i64 x.1, u], v] w fun e w' => e = .returned (.bool (Wt.bound (l.map (·.1)) x)) ∧ Below w.heap.size w w' := by
  have HC := Hid.mk (fun (W : World) (hW : Below w.heap.size w W) (hB : w.heap.size + 1 < W.heap.size) (hc : W.cell? ⟨w.heap.size + 1, 0, none⟩ = some v) =>
    wContainsFunc_any (fun c => c.all fun q => decide (q ∈ l.map (·.1))) (w := W) 133 #[.pointer (some ⟨w.heap.size + 1, 0, none⟩)] (enters_of Tryz.func133 (by kernel_rfl) rfl) (hu.below hW) hx.1
      (fun W' c t hc' ho hW' => boundBy1_any t c (w.heap.size + 1) ((hv.below hW).below hW') hl (own_below ho hW') (hx.2 c hc') ((hW'.cell (p := ⟨w.heap.size + 1, 0, none⟩) hB).trans hc)))
  have HB0 := Hid.mk (show Wt.bound (l.map (·.1)) x = x.2.any (fun c => c.all fun q => decide (q ∈ l.map (·.1))) from rfl)
  rw [← HB0.out] at HC
  obtain ⟨a, c, rfl⟩ := own_form hv.own
  obtain ⟨a', c', rfl⟩ := own_form hu.own
  clear hv hu HB0
  generalize Wt.bound (l.map (·.1)) x = R at *
  have HB := Hid.mk (((Below.refl w.heap.size w).alloc (Nat.le_refl _) (.cells #[.int .i64 x.1, .slice a' x.2.length c'] 150)).alloc (by simp) (.cells #[.slice a l.length c] 148))
  go_enter Tryz.func117, Tryz.ntmps117
  go_wp2_with (go_at_call 132; refine (HC.out _ HB.out (by simp) (by simp)).mono ?_; rintro e w1 ⟨rfl, hb1⟩; have HB1 := Hid.mk hb1; clear hb1)
  go_ret
  exact ⟨rfl, HB.out.trans (HB1.out.mono (by simp; omega))⟩
end Go.Proofs.YtaicdjhblbobbabGreat

/- Contracts of package stuck, on: the greatest set. -/
namespace Go.Proofs.YtaicdjhblbobbabGreat
open Go.RowKit Go.Lib

theorem Tryz.infoWaiter : (Tryz.prog.info? 150).map (fun i => (i.zero, i.size, i.bytes)) = some (some (.agg #[.int .i64 0, .slice none 0 0]), 2, 32) := by kernel_rfl
theorem filt_snoc {l : List Wt} {f : Wt → Bool} {n : Nat} {x : Wt} (h : l[n]? = some x) : (l.take (n + 1)).filter f = (l.take n).filter f ++ (if f x = true then [x] else []) := by
  rw [List.take_add_one, h, List.filter_append]
  congr 1
  cases hb : f x <;> simp [hb]

set_option maxHeartbeats 4000000 in
set_option maxRecDepth 100000 in
theorem bound_any {v : Value} {l : List Wt} {us : List Value} {w : World} (hv : WtAt 0 w v l us) (hl : l.length < 1000) (hs : ∀ x, x ∈ l → x.short) :
    Calls Tryz.prog 108 #[v] w fun e w' => ∃ v' us', e = .returned v' ∧ WtAt w.heap.size w' v' (boundF l) us' ∧ Below w.heap.size w w' := by
  obtain ⟨a, c, rfl⟩ := own_form hv.own
  have HV := Hid.mk hv
  have HSh := Hid.mk hs
  have HBF := Hid.mk (show boundF l = l.filter (Wt.bound (l.map (·.1))) from rfl)
  clear hv hs
  rw [HBF.out]
  generalize hf : Wt.bound (l.map (·.1)) = f
  have HFF := Hid.mk hf
  clear HBF hf
  go_enter Tryz.func108, Tryz.ntmps108
  go_wp2
  go_loopw [3, 8] (fun s3 s8 wr => ∃ (n : Nat) (us3 : List Value), s8 = .int .i64 n ∧ n ≤ l.length ∧ Hid (wr.ownsRow w.heap.size 150 2 s3 ((l.take n).filter f).length (flatWt ((l.take n).filter f) us3)) ∧ Hid (us3.length = ((l.take n).filter f).length) ∧ Hid (∀ (i : Nat) x u, ((l.take n).filter f)[i]? = some x → us3[i]? = some u → ∃ ts, WaysAt w u x.2 ts) ∧ Hid (Below w.heap.size w wr)) (fun _ s8 _ => l.length - (intOf s8).toNat)
  case atStart => exact ⟨0, [], rfl, Nat.zero_le _, World.ownsRow_nil _ _ _ _, rfl, fun i x u h => by simp at h, Below.refl _ _⟩
  case round =>
    obtain ⟨n, us3, rfl, hn, HO, HL, HE, HB⟩ := hrel
    have hsz : w.heap.size ≤ wr.heap.size := HB.out.size
    by_cases hlt : n < l.length
    · obtain ⟨x, hx⟩ : ∃ x, l[n]? = some x := ⟨_, List.getElem?_eq_getElem hlt⟩
      obtain ⟨gb, u, rfl, _, hg, hu, k0, k1⟩ := HV.out.get hx
      obtain ⟨ts, hts⟩ := HV.out.each n x u hx hu
      obtain ⟨ua, uc, rfl⟩ := own_form hts.own
      have c0 := (HB.out.cell (p := ⟨gb, n * 2, none⟩) hg).trans k0
      have c1 := (HB.out.cell (p := ⟨gb, n * 2 + 1, none⟩) hg).trans k1
      have hlt' : (n : Int) < (l.length : Int) := by omega
      have hgw : gb < wr.heap.size := by omega
      have HS := Hid.mk (filt_snoc (f := f) hx)
      have hln : ((l.take n).filter f).length ≤ n := Nat.le_trans (List.length_filter_le _ _) (by simp; omega)
      have hb1 := HB.out.alloc hsz (.cells #[.int .i64 x.1, .slice ua x.2.length uc] 150)
      have hC := boundBy_any x (.slice ua x.2.length uc) ts (HV.out.below hb1) hl (HSh.out x (List.mem_of_getElem? hx)) (hts.below hb1)
      rw [HFF.out] at hC
      have HC := Hid.mk hC
      have HTS := Hid.mk hts
      clear hx hu hts k0 k1 hC hb1
      cases hbt : f x
      · have HT := Hid.mk hbt
        rw [hbt] at HC
        clear hbt
        go_wp2_with (go_at_call 117; refine HC.out.mono ?_; rintro e w1 ⟨rfl, hb2⟩; have HB2 := Hid.mk hb2; clear hb2)
        go_roundw
        case rel =>
          have hbw : Below wr.heap.size wr w1 := ((Below.refl _ _).alloc (Nat.le_refl _) _).trans (HB2.out.mono (by simp))
          refine ⟨n + 1, us3, by go_num, by omega, ?_, ?_, ?_, HB.out.trans (hbw.mono hsz)⟩
          all_goals rw [HS.out, HT.out]
          all_goals simp only [Bool.false_eq_true, if_false, List.append_nil]
          · exact own_below HO.out hbw
          · exact HL.out
          · exact HE.out
        case measure => simp [intOf]; omega
      · have HT := Hid.mk hbt
        rw [hbt] at HC
        clear hbt
        go_wp2_with (first
          | (go_at_call 117; refine HC.out.mono ?_; rintro e w1 ⟨rfl, hb2⟩; have hz2 := hb2.size; simp at hz2; have e0 : w1.cell? ⟨wr.heap.size, 0, none⟩ = some (.int .i64 x.1) := ((bcells hb2).1 _ _ (by simp)).trans (by simp); have e1 : w1.cell? ⟨wr.heap.size, 1, none⟩ = some (.slice ua x.2.length uc) := ((bcells hb2).1 _ _ (by simp)).trans (by simp); have HB2 := Hid.mk hb2; clear hb2)
          | (at_builtin; refine wpList_snoc rfl _ _ _ rfl Tryz.underlying148 Tryz.infoWaiter rfl (by decide) (by decide) rfl (own_below HO.out (((Below.refl _ _).alloc (Nat.le_refl _) _).trans (HB2.out.mono (by simp)))) (by omega) (by omega) (cs := #[.int .i64 x.1, .slice ua x.2.length uc]) rfl (by simp) rfl (by simp [Value.oneCell']) ?_; intro v2 w2 ho2 hb3 hz3 hold3; have HO2 := Hid.mk ho2; have HB3 := Hid.mk hb3; clear ho2 hb3 hold3))
        go_roundw
        case rel =>
          have hbw : Below wr.heap.size wr w1 := ((Below.refl _ _).alloc (Nat.le_refl _) _).trans (HB2.out.mono (by simp))
          refine ⟨n + 1, us3 ++ [.slice ua x.2.length uc], by go_num, by omega, ?_, ?_, ?_, (HB.out.trans (hbw.mono hsz)).trans HB3.out⟩
          all_goals rw [HS.out, HT.out]
          all_goals simp only [if_true]
          · rw [List.length_append, flatWt_snoc _ _ _ _ HL.out]
            exact HO2.out
          · rw [List.length_append, List.length_append, HL.out]
            rfl
          · intro i y t hy ht
            rcases Nat.lt_or_ge i ((l.take n).filter f).length with hi | hi
            · rw [List.getElem?_append_left hi] at hy
              rw [List.getElem?_append_left (by rw [HL.out]; exact hi)] at ht
              exact HE.out i y t hy ht
            · rw [List.getElem?_append_right hi] at hy
              rw [List.getElem?_append_right (by rw [HL.out]; exact hi), HL.out] at ht
              cases hz : i - ((l.take n).filter f).length with
              | zero =>
                rw [hz] at hy ht
                simp at hy ht
                subst hy ht
                exact ⟨ts, HTS.out⟩
              | succ k => rw [hz] at hy; simp at hy
        case measure => simp [intOf]; omega
    · obtain rfl : n = l.length := by omega
      have HO3 := HO.out
      have HL3 := HL.out
      have HE3 := HE.out
      rw [List.take_of_length_le (Nat.le_refl _)] at HO3 HL3 HE3
      have HO4 := Hid.mk HO3
      have HL4 := Hid.mk HL3
      have HE4 := Hid.mk HE3
      clear HO3 HL3 HE3
      go_wp2
      go_ret
      exact ⟨_, us3, rfl, ⟨HL4.out, HO4.out, fun i x u h1 h2 => by obtain ⟨ts, ht⟩ := HE4.out i x u h1 h2; exact ⟨ts, ht.below HB.out⟩⟩, HB.out⟩

theorem greatN_short {l : List Wt} (h : ∀ x, x ∈ l → x.short) (n : Nat) : (∀ x, x ∈ greatN n l → x.short) ∧ (greatN n l).length ≤ l.length := by
  obtain ⟨f, hf⟩ := greatN_filter n l
  rw [hf]
  exact ⟨fun x hx => h x (List.mem_filter.1 hx).1, List.length_filter_le _ _⟩

def lenV : Value → Nat
  | .slice _ k _ => k
  | _ => 0

set_option maxHeartbeats 4000000 in
set_option maxRecDepth 100000 in
theorem Greatest_any {v : Value} {l : List Wt} {us : List Value} {w : World} (hv : WtAt 0 w v l us) (hl : l.length < 1000) (hs : ∀ x, x ∈ l → x.short) :
    Calls Tryz.prog 87 #[v] w fun e w' => ∃ v' us', e = .returned v' ∧ WtAt 0 w' v' (greatF l) us' ∧ Below w.heap.size w w' := by
  have HV := Hid.mk hv
  have HSh := Hid.mk hs
  clear hv hs
  go_enter Tryz.func87, Tryz.ntmps87
  go_wp2_with fail
  go_loopw [0, 3] (fun s0 _ wr => ∃ (n : Nat) (us0 : List Value), Hid (n + (greatN n l).length ≤ l.length) ∧ Hid (WtAt 0 wr s0 (greatN n l) us0) ∧ Hid (Below w.heap.size w wr)) (fun s0 _ _ => lenV s0)
  case atStart => exact ⟨0, us, (show 0 + (greatN 0 l).length ≤ l.length from by simp [greatN]), HV.out, Below.refl _ _⟩
  case round =>
    obtain ⟨n, us0, HN, HW, HB⟩ := hrel
    obtain ⟨a, c, rfl⟩ := own_form HW.out.own
    have hsz : w.heap.size ≤ wr.heap.size := HB.out.size
    obtain ⟨hsh, hlen⟩ := greatN_short HSh.out n
    have hC := bound_any HW.out (by omega) hsh
    rw [← greatN_succ] at hC
    have HC := Hid.mk hC
    have hle := boundF_len (greatN n l)
    rw [← greatN_succ] at hle
    clear hC hsh
    by_cases heq : (greatN (n + 1) l).length = (greatN n l).length
    · have HEQ := Hid.mk heq
      have heqI : ((greatN (n + 1) l).length : Int) = ((greatN n l).length : Int) := by omega
      have HFin : Hid (greatF l = greatN (n + 1) l) := by
        have h1 : boundF (greatN n l) = greatN n l := boundF_same (by rw [← greatN_succ]; exact heq)
        have := HN.out
        rw [greatN_succ, h1]
        exact greatF_done (by omega) h1
      go_wp2_with (go_at_call 108; refine HC.out.mono ?_; rintro e w1 ⟨v1, us1, rfl, ho1, hb1⟩; obtain ⟨a1, c1, rfl⟩ := own_form ho1.own; have HO1 := Hid.mk ho1; have HB1 := Hid.mk hb1; clear ho1 hb1)
      go_ret
      refine ⟨_, us1, rfl, ?_, HB.out.trans (HB1.out.mono hsz)⟩
      rw [HFin.out]
      have h1 := HO1.out.mono (Nat.zero_le _)
      have e1 : Value.slice a1 (greatN (n + 1) l).length c1 = .slice a1 (greatN n l).length c1 := by rw [HEQ.out]
      rw [e1] at h1
      exact h1
    · have heqI : ¬ ((greatN (n + 1) l).length : Int) = ((greatN n l).length : Int) := by omega
      have HN1 : Hid (n + 1 + (greatN (n + 1) l).length ≤ l.length) := by
        have := HN.out
        show _ ≤ _
        omega
      go_wp2_with (go_at_call 108; refine HC.out.mono ?_; rintro e w1 ⟨v1, us1, rfl, ho1, hb1⟩; obtain ⟨a1, c1, rfl⟩ := own_form ho1.own; have HO1 := Hid.mk ho1; have HB1 := Hid.mk hb1; clear ho1 hb1)
      go_roundw
      case rel => exact ⟨n + 1, us1, HN1.out, HO1.out.mono (Nat.zero_le _), HB.out.trans (HB1.out.mono hsz)⟩
      case measure =>
        show (greatN (n + 1) l).length < (greatN n l).length
        omega
end Go.Proofs.YtaicdjhblbobbabGreat
