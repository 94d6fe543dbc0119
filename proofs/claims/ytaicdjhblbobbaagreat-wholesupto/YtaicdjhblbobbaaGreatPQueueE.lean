/- Contracts of package queue, on: without one process. -/
import Derived.Test.YtaicdjhblbobbaaGreatPWholesB
import Derived.Test.YtaicdjhblbobbaaGreatPCut
namespace Go.Proofs.YtaicdjhblbobbaaGreat
open Go.RowKit Go.Lib

/-- Where the first is of which f holds; -1: nowhere. -/
def idxF {α : Type} (l : List α) (f : α → Bool) : Int := match l.findIdx? f with | some i => (i : Int) | none => -1
theorem idxF_hit {α : Type} {l : List α} {f : α → Bool} {n : Nat} {x : α} (hx : l[n]? = some x) (hf : f x = true) (h : ∀ (j : Nat) (y : α), j < n → l[j]? = some y → f y = false) : idxF l f = (n : Int) := by
  have hn : n < l.length := (List.getElem?_eq_some_iff.1 hx).1
  have : l.findIdx? f = some n := List.findIdx?_eq_some_iff_getElem.2 ⟨hn, by rw [(List.getElem?_eq_some_iff.1 hx).2]; exact hf, fun j hj => by rw [h j _ hj (List.getElem?_eq_getElem (by omega))]; decide⟩
  unfold idxF; rw [this]
theorem idxF_miss {α : Type} {l : List α} {f : α → Bool} (h : ∀ (j : Nat) (y : α), l[j]? = some y → f y = false) : idxF l f = -1 := by
  have : l.findIdx? f = none := by
    rw [List.findIdx?_eq_none_iff]
    intro x hx
    obtain ⟨j, hj⟩ := List.mem_iff_getElem?.1 hx
    exact h j x hj
  unfold idxF; rw [this]

set_option maxHeartbeats 4000000 in
set_option maxRecDepth 100000 in
theorem qIndexFunc_any {v : Value} {l : List Ask} (f : Ask → Bool) {w : World} {B : Nat} (hB : B ≤ w.heap.size) (g : Nat) (lb : Array Value) (eg : ∀ args w, (callFunc g args).run Tryz.prog w = .ok (.enter g args) w)
    (hv : w.ownsRow B 137 8 v l.length (flatQ l)) (hl : l.length < 1000)
    (hp : ∀ (W : World) (x : Ask), Below B w W → Calls Tryz.prog g (#[askV x] ++ lb) W fun e w' => e = .returned (.bool (f x)) ∧ Below W.heap.size W w') :
    Calls Tryz.prog 164 #[v, .func (.func g) #[] lb] w fun e w' => e = .returned (.int .i64 (idxF l f)) ∧ Below w.heap.size w w' := by
  obtain ⟨a, c, rfl⟩ := own_form hv
  have HV := Hid.mk hv
  have HP := Hid.mk hp
  clear hv hp
  go_enter Tryz.func164, Tryz.ntmps164
  go_wp2
  go_loopw [5, 8] (fun _ s8 wr => ∃ n : Nat, s8 = .int .i64 n ∧ n ≤ l.length ∧ Hid (∀ (j : Nat) (y : Ask), j < n → l[j]? = some y → f y = false) ∧ Hid (Below w.heap.size w wr)) (fun _ s8 _ => l.length - (intOf s8).toNat)
  case atStart => exact ⟨0, rfl, Nat.zero_le _, fun j y hj => absurd hj (Nat.not_lt_zero _), Below.refl _ _⟩
  case round =>
    obtain ⟨n, rfl, hn, HF, HB⟩ := hrel
    have hsz : w.heap.size ≤ wr.heap.size := HB.out.size
    by_cases hlt : n < l.length
    · obtain ⟨x, hx⟩ : ∃ x, l[n]? = some x := ⟨_, List.getElem?_eq_getElem hlt⟩
      obtain ⟨gb, rfl, _, hg, _, hat⟩ := askAt HV.out hx
      obtain ⟨c0, c1, c2, c3, c4, c5, c6, c7⟩ := hat.below HB.out hg
      have hlt' : (n : Int) < (l.length : Int) := by omega
      have hgw : gb < wr.heap.size := by omega
      have HC := Hid.mk (HP.out wr x (HB.out.mono hB))
      have HX := Hid.mk hx
      unfold askV at HC
      clear hat hx
      unfold ptrV at *
      generalize x.ow.map (fun b => (⟨b, 0, none⟩ : Addr)) = A at *
      cases hbt : f x
      · have HT := Hid.mk hbt
        rw [hbt] at HC
        clear hbt
        go_wp2_with (go_at_fn g; refine HC.out.mono ?_; rintro e w1 ⟨rfl, hb2⟩; have HB2 := Hid.mk hb2; clear hb2)
        go_roundw
        case rel =>
          refine ⟨n + 1, by go_num, by omega, fun j y hj hy => ?_, HB.out.trans (HB2.out.mono hsz)⟩
          by_cases e : j = n
          · subst e
            rw [HX.out] at hy
            cases hy
            exact HT.out
          · exact HF.out j y (by omega) hy
        case measure => simp [intOf]; omega
      · have HT := Hid.mk hbt
        rw [hbt] at HC
        clear hbt
        go_wp2_with (go_at_fn g; refine HC.out.mono ?_; rintro e w1 ⟨rfl, hb2⟩; have HB2 := Hid.mk hb2; clear hb2)
        go_ret
        exact ⟨ret_i64 (idxF_hit HX.out HT.out HF.out).symm, HB.out.trans (HB2.out.mono hsz)⟩
    · obtain rfl : n = l.length := by omega
      go_wp2
      go_ret
      exact ⟨ret_i64 (idxF_miss fun j y hy => HF.out j y (List.getElem?_eq_some_iff.1 hy).1 hy).symm, HB.out⟩

/-- Cells laid one after the other. -/
def setL (xs : List Value) : Nat → List Value → List Value
  | _, [] => xs
  | o, v :: r => setL (xs.set o v) (o + 1) r
theorem setL_get : ∀ (vs : List Value) (xs : List Value) (o j : Nat), o + vs.length ≤ xs.length → (setL xs o vs)[j]? = if o ≤ j ∧ j < o + vs.length then vs[j - o]? else xs[j]?
  | [], xs, o, j, _ => by
    unfold setL
    rw [if_neg (by simp)]
  | v :: r, xs, o, j, h => by
    simp only [List.length_cons] at h ⊢
    unfold setL
    rw [setL_get r (xs.set o v) (o + 1) j (by simp; omega)]
    by_cases h1 : o + 1 ≤ j ∧ j < o + 1 + r.length
    · rw [if_pos h1, if_pos (by omega), show j - o = j - (o + 1) + 1 by omega, List.getElem?_cons_succ]
    · rw [if_neg h1]
      by_cases h2 : j = o
      · subst h2
        rw [if_pos (by omega), List.getElem?_set_self (by omega)]
        simp
      · rw [if_neg (by omega), List.getElem?_set_ne (by omega)]
theorem flatQ_set {l : List Ask} {i : Nat} (hi : i < l.length) (x : Ask) : setL (flatQ l) (i * 8) (qcells x) = flatQ (l.set i x) := by
  apply List.ext_getElem?
  intro j
  have hlen := flatQ_len l
  rw [setL_get _ _ _ _ (by rw [hlen, qcells_len]; omega), qcells_len]
  by_cases hj : j < l.length * 8
  · have h8 : j / 8 < l.length := by omega
    have hj8 : j = j / 8 * 8 + j % 8 := by omega
    have hm : j % 8 < 8 := Nat.mod_lt _ (by decide)
    by_cases hij : j / 8 = i
    · rw [if_pos (by omega)]
      have := flat_get qcells 8 qcells_len (l.set i x) (j / 8) (j % 8) x (by rw [hij]; simp [hi]) hm
      have e : j - i * 8 = j % 8 := by omega
      rw [e, ← this]
      unfold flatQ
      rw [← hj8]
    · rw [if_neg (by omega)]
      obtain ⟨y, hy⟩ : ∃ y, l[j / 8]? = some y := ⟨_, List.getElem?_eq_getElem h8⟩
      have h1 := flat_get qcells 8 qcells_len l (j / 8) (j % 8) y hy hm
      have h2 := flat_get qcells 8 qcells_len (l.set i x) (j / 8) (j % 8) y (by rw [List.getElem?_set_ne (by omega)]; exact hy) hm
      rw [← hj8] at h1 h2
      unfold flatQ
      rw [h1, h2]
  · rw [if_neg (by omega), List.getElem?_eq_none (by omega), List.getElem?_eq_none (by rw [flatQ_len]; simp; omega)]
theorem own_setCells {base : Nat} {e : TypeId} {sz g n cap : Nat} : ∀ (vs : List Value) (o : Nat) (w : World) (xs : List Value), w.ownsRow base e sz (.slice (some ⟨g, 0, none⟩) n cap) n xs → o + vs.length ≤ n * sz → (w.setCells g o vs).ownsRow base e sz (.slice (some ⟨g, 0, none⟩) n cap) n (setL xs o vs)
  | [], o, w, xs, h, _ => h
  | v :: r, o, w, xs, h, hl => own_setCells r (o + 1) _ _ (h.stored o v).1 (by simp at hl; omega)
theorem own_cut {w : World} {base : Nat} {e : TypeId} {sz g n cap : Nat} {xs : List Value} (h : w.ownsRow base e sz (.slice (some ⟨g, 0, none⟩) n cap) n xs) {k : Nat} (hk : k ≤ n) : w.ownsRow base e sz (.slice (some ⟨g, 0, none⟩) k cap) k (xs.take (k * sz)) := by
  have hks : k * sz ≤ n * sz := Nat.mul_le_mul_right _ hk
  refine ⟨by rw [List.length_take, h.1]; omega, ?_⟩
  rcases h.2 with ⟨hv, _⟩ | ⟨g', cap', cur, hv, hg, hblk, hn, hm, hs, ht⟩
  · cases hv
  · cases hv
    refine Or.inr ⟨g, cap, cur, rfl, hg, hblk, by omega, hm, hs, ?_⟩
    rw [← ht, List.take_take, Nat.min_eq_left hks]
theorem below_setCells {B g : Nat} (hg : B ≤ g) : ∀ (vs : List Value) (o : Nat) (w0 w : World), Below B w0 w → Below B w0 (w.setCells g o vs)
  | [], _, _, _, h => h
  | v :: r, o, w0, w, h => below_setCells hg r (o + 1) w0 _ ⟨h.os, h.tape, h.output, by simpa using h.size, fun k hk => (Below.heap_setCell _ _ _ _ (by simp; omega)).trans (h.block k hk)⟩

/-- clear of what is left of a row. -/
theorem run_clear_row {w : World} {base g n cap i : Nat} {xs : List Value} (h : w.ownsRow base 137 8 (.slice (some ⟨g, 0, none⟩) n cap) n xs) (hi : i < n) (c : Nat) :
    ∃ zs : List Value, zs.length = (n - i) * 8 ∧ ∀ ty, (Builtin.clear_ #[98] ty #[.slice (some ⟨g, i * 8, none⟩) (n - i) c]).run Tryz.prog w = .ok (.tuple #[]) (w.setCells g (i * 8) zs) := by
  refine ⟨(Builtin.zeroCells #[.int .i64 0, .int .i64 0, .int .i64 0, .int .i64 0, .int .i64 0, .int .i64 0, .pointer none, .int .i64 0] (n - i)).toList, ?_, ?_⟩
  · simp [Builtin.zeroCells]
  · intro ty
    have hlen : (Builtin.zeroCells #[.int .i64 0, .int .i64 0, .int .i64 0, .int .i64 0, .int .i64 0, .int .i64 0, .pointer none, .int .i64 0] (n - i)).toList.length = (n - i) * 8 := by simp [Builtin.zeroCells]
    have hst := run_storeCells_cells (P := Tryz.prog) g (i * 8) (Builtin.zeroCells #[.int .i64 0, .int .i64 0, .int .i64 0, .int .i64 0, .int .i64 0, .int .i64 0, .pointer none, .int .i64 0] (n - i)).toList 0 w (fun j hj => by
        rw [hlen] at hj
        rw [h.cellAt (i * 8 + 0 + j) (by omega)]
        have := h.1
        rw [List.getElem?_eq_getElem (by omega)]
        rfl) (fun j hj => h.frozenAt _) (fun v hv => by
        simp only [Builtin.zeroCells] at hv
        simp at hv
        obtain ⟨a, ha, rfl⟩ := hv
        have h8 : a % 8 < 8 := Nat.mod_lt _ (by decide)
        generalize a % 8 = q at *
        match q, h8 with
        | 0, _ | 1, _ | 2, _ | 3, _ | 4, _ | 5, _ | 6, _ | 7, _ => rfl)
    simp only [Nat.add_zero] at hst
    obtain ⟨m, hm⟩ : ∃ m, n - i = m + 1 := ⟨n - i - 1, by omega⟩
    rw [hm] at hst ⊢
    simp [Builtin.clear_, run_underlying Tryz.underlying98, Value.cells, hst]
/-- How far DeleteFunc has come: of the first j those that stay lie in front; what is behind is as it was. -/
structure DelInv (l : List Ask) (f : Ask → Bool) (i j : Nat) (cur : List Ask) : Prop where
  len : cur.length = l.length
  lt : i < j
  le : j ≤ l.length
  front : cur.take i = (l.take j).filter fun x => !f x
  rest : ∀ k, j ≤ k → cur[k]? = l[k]?
theorem DelInv.start {l : List Ask} {f : Ask → Bool} {i : Nat} (h : idxF l f = (i : Int)) : DelInv l f i (i + 1) l := by
  unfold idxF at h
  cases hf : l.findIdx? f with
  | none =>
    rw [hf] at h
    have h' : (-1 : Int) = i := h
    omega
  | some n =>
    rw [hf] at h
    have h' : (n : Int) = i := h
    obtain rfl : n = i := by omega
    obtain ⟨hn, h1, h2⟩ := List.findIdx?_eq_some_iff_getElem.1 hf
    refine ⟨rfl, Nat.lt_succ_self _, hn, ?_, fun _ _ => rfl⟩
    rw [List.take_add_one, List.getElem?_eq_getElem hn, List.filter_append]
    have e1 : (l.take n).filter (fun x => !f x) = l.take n := List.filter_eq_self.2 fun x hx => by
      obtain ⟨j, hj⟩ := List.mem_iff_getElem?.1 hx
      rw [List.getElem?_take] at hj
      split at hj
      · rename_i hlt
        have := h2 j hlt
        rw [(List.getElem?_eq_some_iff.1 hj).2] at this
        simpa using this
      · cases hj
    simp [e1, h1]
theorem DelInv.skip {l : List Ask} {f : Ask → Bool} {i j : Nat} {cur : List Ask} (h : DelInv l f i j cur) {x : Ask} (hx : l[j]? = some x) (hf : f x = true) : DelInv l f i (j + 1) cur := by
  have hj : j < l.length := (List.getElem?_eq_some_iff.1 hx).1
  have hl := h.lt
  refine ⟨h.len, by omega, hj, ?_, fun k hk => h.rest k (by omega)⟩
  rw [h.front, List.take_add_one, hx, List.filter_append]
  simp [hf]
theorem DelInv.keep {l : List Ask} {f : Ask → Bool} {i j : Nat} {cur : List Ask} (h : DelInv l f i j cur) {x : Ask} (hx : l[j]? = some x) (hf : f x = false) : DelInv l f (i + 1) (j + 1) (cur.set i x) := by
  have hj : j < l.length := (List.getElem?_eq_some_iff.1 hx).1
  have hl := h.lt
  have hlen := h.len
  refine ⟨by simp [hlen], by omega, hj, ?_, fun k hk => ?_⟩
  · rw [List.take_add_one, List.getElem?_set_self (by omega), List.take_set_of_le (Nat.le_refl _), h.front, List.take_add_one, hx, List.filter_append]
    simp [hf]
  · rw [List.getElem?_set_ne (by omega)]
    exact h.rest k (by omega)
theorem DelInv.done {l : List Ask} {f : Ask → Bool} {i : Nat} {cur : List Ask} (h : DelInv l f i l.length cur) : cur.take i = l.filter fun x => !f x := by
  rw [h.front, List.take_of_length_le (Nat.le_refl _)]
theorem DelInv.flat {l : List Ask} {i : Nat} (hi : i ≤ l.length) : (flatQ l).take (i * 8) = flatQ (l.take i) := by
  conv => lhs; rw [← List.take_append_drop i l]
  unfold flatQ
  rw [List.flatMap_append, List.take_append_of_le_length (by rw [flat_len qcells 8 qcells_len]; simp; omega), List.take_of_length_le (by rw [flat_len qcells 8 qcells_len]; simp; omega)]

set_option maxHeartbeats 8000000 in
set_option maxRecDepth 100000 in
theorem DeleteFunc_any {v : Value} {l : List Ask} (f : Ask → Bool) {w : World} {B : Nat} (hB : B ≤ w.heap.size) (g : Nat) (lb : Array Value) (eg : ∀ args w, (callFunc g args).run Tryz.prog w = .ok (.enter g args) w)
    (hv : w.ownsRow B 137 8 v l.length (flatQ l)) (hl : l.length < 1000)
    (hp : ∀ (W : World) (x : Ask), Below B w W → Calls Tryz.prog g (#[askV x] ++ lb) W fun e w' => e = .returned (.bool (f x)) ∧ Below W.heap.size W w') :
    Calls Tryz.prog 131 #[v, .func (.func g) #[] lb] w fun e w' => ∃ v', e = .returned v' ∧ w'.ownsRow B 137 8 v' (l.filter fun x => !f x).length (flatQ (l.filter fun x => !f x)) ∧ Below B w w' := by
  have HI := Hid.mk (qIndexFunc_any f hB g lb eg hv hl hp)
  obtain ⟨a, c, rfl⟩ := own_form hv
  have HV := Hid.mk hv
  have HP := Hid.mk hp
  clear hv hp
  by_cases hnone : idxF l f = -1
  · have HE : Hid ((l.filter fun x => !f x) = l) := List.filter_eq_self.2 fun x hx => by
      unfold idxF at hnone
      cases hf : l.findIdx? f with
      | some n => rw [hf] at hnone; have h' : (n : Int) = -1 := hnone; omega
      | none => simpa using (List.findIdx?_eq_none_iff.1 hf) x hx
    rw [hnone] at HI
    clear hnone
    go_enter Tryz.func131, Tryz.ntmps131
    go_wp2_with (go_at_call 164; refine HI.out.mono ?_; rintro e w1 ⟨rfl, hb1⟩; have HB1 := Hid.mk hb1; clear hb1)
    go_ret
    refine ⟨_, rfl, ?_, HB1.out.mono hB⟩
    rw [HE.out]
    exact own_below HV.out HB1.out
  · obtain ⟨i0, hi0⟩ : ∃ i0 : Nat, idxF l f = (i0 : Int) := by
      unfold idxF at hnone ⊢
      cases hf : l.findIdx? f with
      | none => rw [hf] at hnone; exact absurd rfl hnone
      | some n => exact ⟨n, rfl⟩
    have HS := Hid.mk (DelInv.start hi0)
    rw [hi0] at HI
    have hne : ¬ (i0 : Int) = -1 := by omega
    have hlen0 : i0 < 1000 := by have := HS.out.le; omega
    clear hnone hi0
    obtain ⟨gb, rfl, hgB, hg, hnc, _⟩ := own_some HV.out (by have := HS.out.le; omega)
    have hlI : (l.length : Int) < 1000 := by omega
    go_enter Tryz.func131, Tryz.ntmps131
    go_wp2_with (go_at_call 164; refine HI.out.mono ?_; rintro e w1 ⟨rfl, hb1⟩; have HB1 := Hid.mk hb1; clear hb1)
    go_loopw [5, 6] (fun s5 s6 wr => ∃ (i j : Nat) (cur : List Ask), s5 = .int .i64 i ∧ s6 = .int .i64 j ∧ Hid (DelInv l f i j cur) ∧ Hid (wr.ownsRow B 137 8 (.slice (some ⟨gb, 0, none⟩) l.length c) l.length (flatQ cur)) ∧ Hid (Below B w wr)) (fun _ s6 _ => l.length - (intOf s6).toNat)
    case atStart => exact ⟨i0, i0 + 1, l, rfl, by go_num, HS.out, own_below HV.out HB1.out, HB1.out.mono hB⟩
    case round =>
      obtain ⟨i, j, cur, rfl, rfl, HD, HO, HB⟩ := hrel
      have hij := HD.out.lt
      have hjl := HD.out.le
      have hcl := HD.out.len
      have hgw : gb < wr.heap.size := (HO.out.lt gb rfl).2
      by_cases hlt : j < l.length
      · obtain ⟨x, hx⟩ : ∃ x, l[j]? = some x := ⟨_, List.getElem?_eq_getElem hlt⟩
        obtain ⟨y, hy⟩ : ∃ y, cur[i]? = some y := ⟨_, List.getElem?_eq_getElem (by omega)⟩
        have hxc : cur[j]? = some x := (HD.out.rest j (Nat.le_refl _)).trans hx
        have hO' : wr.ownsRow B 137 8 (.slice (some ⟨gb, 0, none⟩) cur.length c) cur.length (flatQ cur) := by rw [hcl]; exact HO.out
        obtain ⟨_, e1, _, _, _, hat⟩ := askAt hO' hxc
        cases e1
        obtain ⟨_, e1, _, _, _, hay⟩ := askAt hO' hy
        cases e1
        have HAY := Hid.mk hay
        obtain ⟨c0, c1, c2, c3, c4, c5, c6, c7⟩ := hat
        have hlt' : (j : Int) < (l.length : Int) := by omega
        have hi' : (i : Int) < (l.length : Int) := by omega
        have hb2 := (Below.refl wr.heap.size wr).alloc (Nat.le_refl _) x.boxed
        have HC := Hid.mk (HP.out (wr.alloc x.boxed) x (HB.out.alloc (by have := HB.out.size; omega) _))
        unfold askV at HC
        unfold Ask.boxed at HC hb2
        have HX := Hid.mk hx
        have HB2 := Hid.mk hb2
        have HQC := Hid.mk (show qcells x = [.int .i64 x.p, .int .i64 x.file, .int .i64 x.rn.p, .int .i64 x.rn.k, .int .i64 x.rn.f, .int .i64 x.rn.t, ptrV x.ow, .int .i64 x.wk] from rfl)
        clear hx hy hxc hO' hay hb2
        unfold ptrV at *
        generalize x.ow.map (fun b => (⟨b, 0, none⟩ : Addr)) = A at *
        cases hbt : f x
        · have HT := Hid.mk hbt
          rw [hbt] at HC
          clear hbt
          go_wp2_with (go_at_fn g; refine HC.out.mono ?_; rintro e w2 ⟨rfl, hb3⟩; have HB3 := Hid.mk (HB2.out.trans (hb3.mono (by simp))); have hcc := (bcells hb3).1; have b0 := hcc wr.heap.size 0 (by simp); have b1 := hcc wr.heap.size 1 (by simp); have b2 := hcc wr.heap.size 2 (by simp); have b3 := hcc wr.heap.size 3 (by simp); have b4 := hcc wr.heap.size 4 (by simp); have b5 := hcc wr.heap.size 5 (by simp); have b6 := hcc wr.heap.size 6 (by simp); have b7 := hcc wr.heap.size 7 (by simp); simp at b0 b1 b2 b3 b4 b5 b6 b7; obtain ⟨y0, y1, y2, y3, y4, y5, y6, y7⟩ := HAY.out.below HB3.out hgw; have HO2 := Hid.mk (own_below HO.out HB3.out); have z0 := HO2.out.frozenAt (i * 8); have z1 := HO2.out.frozenAt (i * 8 + 1); have z2 := HO2.out.frozenAt (i * 8 + 2); have z3 := HO2.out.frozenAt (i * 8 + 3); have z4 := HO2.out.frozenAt (i * 8 + 4); have z5 := HO2.out.frozenAt (i * 8 + 5); have z6 := HO2.out.frozenAt (i * 8 + 6); have z7 := HO2.out.frozenAt (i * 8 + 7); clear hb3 hcc)
          go_roundw
          case rel =>
            have hst := own_setCells (qcells x) (i * 8) w2 (flatQ cur) HO2.out (by rw [qcells_len]; omega)
            rw [flatQ_set (by omega) x, HQC.out] at hst
            have hbl := below_setCells hgB (qcells x) (i * 8) w w2 (HB.out.trans (HB3.out.mono (by have := HB.out.size; omega)))
            rw [HQC.out] at hbl
            simp only [World.setCells, Nat.add_assoc, Nat.reduceAdd] at hst hbl
            refine ⟨_, _, _, _, _, _, _, _, _, _, _, _, _, _, _, _, _, _, _, _, _, _, _, ⟨i + 1, j + 1, cur.set i x, ?a1, ?a2, HD.out.keep HX.out HT.out, hst, hbl⟩, rfl⟩
            all_goals go_num
          case measure => simp [intOf]; omega
        · have HT := Hid.mk hbt
          rw [hbt] at HC
          clear hbt
          go_wp2_with (go_at_fn g; refine HC.out.mono ?_; rintro e w2 ⟨rfl, hb3⟩; have HB3 := Hid.mk (HB2.out.trans (hb3.mono (by simp))); clear hb3)
          go_roundw
          case rel =>
            refine ⟨_, _, _, _, _, _, _, _, _, _, _, _, _, _, _, _, _, _, _, _, _, _, _, ?r, rfl⟩
            exact ⟨i, j + 1, cur, by go_num, by go_num, HD.out.skip HX.out HT.out, own_below HO.out HB3.out, HB.out.trans (HB3.out.mono (by have := HB.out.size; omega))⟩
          case measure => simp [intOf]; omega
      · obtain rfl : j = l.length := by omega
        have hic : i < c := by omega
        obtain ⟨zs, hzl, hclr⟩ := run_clear_row HO.out hij (c - i)
        have HZ := Hid.mk hzl
        have hi' : (i : Int) < (l.length : Int) := by omega
        have hic' : (i : Int) < (c : Int) := by omega
        clear hzl
        go_wp2
        go_ret
        refine ⟨_, rfl, ?_, below_setCells hgB zs (i * 8) w wr HB.out⟩
        have hset := own_cut (own_setCells zs (i * 8) wr (flatQ cur) HO.out (by rw [HZ.out]; omega)) (k := i) (by omega)
        have hlen := flatQ_len cur
        have e1 : (setL (flatQ cur) (i * 8) zs).take (i * 8) = flatQ (l.filter fun x => !f x) := by
          rw [← HD.out.done, ← DelInv.flat (by omega)]
          apply List.ext_getElem?
          intro k
          rw [List.getElem?_take, List.getElem?_take]
          split
          · rw [setL_get _ _ _ _ (by rw [HZ.out, hlen]; omega), if_neg (by omega)]
          · rfl
        have e2 : (l.filter fun x => !f x).length = i := by rw [← HD.out.done, List.length_take]; omega
        rw [e1] at hset
        rw [e2]
        exact hset

set_option maxHeartbeats 1000000 in
set_option maxRecDepth 100000 in
theorem without1_any (x : Ask) (p : Int) (B : Nat) (W : World) (hB : B < W.heap.size) (hc : W.cell? ⟨B, 0, none⟩ = some (.int .i64 p)) :
    Calls Tryz.prog 133 (#[askV x] ++ #[.pointer (some ⟨B, 0, none⟩)]) W fun e w' => e = .returned (.bool (decide (x.p = p))) ∧ Below W.heap.size W w' := by
  unfold askV
  show Calls Tryz.prog 133 #[_, _] W _
  unfold ptrV
  generalize x.ow.map (fun b => (⟨b, 0, none⟩ : Addr)) = A at *
  go_enter Tryz.func133, Tryz.ntmps133
  go_wp2
  go_ret
  exact ⟨ret_bool (by rw [Bool.eq_iff_iff]; simp), (Below.refl _ _).alloc (Nat.le_refl _) _⟩

set_option maxHeartbeats 2000000 in
set_option maxRecDepth 100000 in
theorem qWithout_any {v : Value} {l : List Ask} (p : Int) {w : World} (hv : w.ownsRow 0 137 8 v l.length (flatQ l)) (hl : l.length < 1000) :
    Calls Tryz.prog 89 #[v, .int .i64 p] w fun e w' => ∃ v', e = .returned v' ∧ w'.ownsRow w.heap.size 137 8 v' (l.filter fun a => decide (a.p ≠ p)).length (flatQ (l.filter fun a => decide (a.p ≠ p))) ∧ Below w.heap.size w w' := by
  have hb0 := (Below.refl w.heap.size w).alloc (Nat.le_refl _) (.cells #[.int .i64 p] 3)
  have HK := Hid.mk (Clone_any (own_below hv hb0) hl)
  have HE : Hid ((l.filter fun a => !decide (a.p = p)) = l.filter fun a => decide (a.p ≠ p)) := List.filter_congr fun a _ => by simp
  have HD := Hid.mk (fun (v1 : Value) (w1 : World) (ho : w1.ownsRow (w.heap.size + 1) 137 8 v1 l.length (flatQ l)) (hb : Below (w.heap.size + 1) (w.alloc (.cells #[.int .i64 p] 3)) w1) =>
    DeleteFunc_any (fun a => decide (a.p = p)) (w := w1) (B := w.heap.size + 1) (by have := hb.size; simpa using this) 133 #[.pointer (some ⟨w.heap.size, 0, none⟩)] (enters_of Tryz.func133 (by kernel_rfl) rfl) ho hl
      (fun W x hW => without1_any x p w.heap.size W (by have h1 := hW.size; have h2 := hb.size; simp at h2; omega) (by
        rw [hW.cell (p := ⟨w.heap.size, 0, none⟩) (Nat.lt_succ_self _), hb.cell (p := ⟨w.heap.size, 0, none⟩) (Nat.lt_succ_self _)]; simp)))
  have HB0 := Hid.mk hb0
  clear hv hb0
  go_enter Tryz.func89, Tryz.ntmps89
  go_wp2_with (first
    | (go_at_call 132; refine HK.out.mono ?_; rintro e w1 ⟨v1, rfl, ho1, hb1⟩; have HO1 := Hid.mk ho1; have HB1 := Hid.mk hb1; clear ho1 hb1)
    | (go_at_call 131; refine (HD.out v1 w1 (by have := HO1.out; simpa using this) (by have := HB1.out; simpa using this)).mono ?_; rintro e w2 ⟨v2, rfl, ho2, hb2⟩; have HO2 := Hid.mk ho2; have HB2 := Hid.mk hb2; clear ho2 hb2))
  go_ret
  refine ⟨_, rfl, ?_, (HB0.out.trans (HB1.out.mono (by simp))).trans (HB2.out.mono (Nat.le_succ _))⟩
  have := HO2.out
  rw [HE.out] at this
  exact own_mono this (Nat.le_succ _)
end Go.Proofs.YtaicdjhblbobbaaGreat

/- Contracts of package stuck: is one of the set, are all of them. -/
namespace Go.Proofs.YtaicdjhblbobbaaGreat
open Go.RowKit Go.Lib

/-- A list of lists of numbers lies behind u. -/
structure WaysAt (w : World) (u : Value) (L : List (List Int)) (us : List Value) : Prop where
  len : us.length = L.length
  own : w.ownsRow 0 25 1 u L.length us
  each : ∀ (j : Nat) c t, L[j]? = some c → us[j]? = some t → w.ownsRow 0 3 1 t c.length (ints c)
theorem WaysAt.below {w w' : World} {u : Value} {L : List (List Int)} {us : List Value} (h : WaysAt w u L us) (hb : Below w.heap.size w w') : WaysAt w' u L us :=
  ⟨h.len, own_below h.own hb, fun j c t h1 h2 => own_below (h.each j c t h1 h2) hb⟩
def flatWt : List Wt → List Value → List Value
  | x :: l, u :: us => .int .i64 x.1 :: u :: flatWt l us
  | _, _ => []
theorem flatWt_get : ∀ (l : List Wt) (us : List Value) (i : Nat) (x : Wt) (u : Value), l[i]? = some x → us[i]? = some u → (flatWt l us)[i * 2]? = some (.int .i64 x.1) ∧ (flatWt l us)[i * 2 + 1]? = some u
  | [], us, i, x, u, h, _ => by simp at h
  | d :: l, [], i, x, u, _, h => by simp at h
  | d :: l, v :: us, 0, x, u, h, g => by simp at h g; subst h g; simp [flatWt]
  | d :: l, v :: us, i + 1, x, u, h, g => by
    have := flatWt_get l us i x u (by simpa using h) (by simpa using g)
    rw [show (i + 1) * 2 = i * 2 + 1 + 1 by omega]
    simpa [flatWt] using this
theorem flatWt_snoc : ∀ (l : List Wt) (us : List Value) (x : Wt) (u : Value), us.length = l.length → flatWt (l ++ [x]) (us ++ [u]) = flatWt l us ++ [.int .i64 x.1, u]
  | [], us, x, u, h => by
    have : us = [] := List.eq_nil_of_length_eq_zero h
    subst this; rfl
  | d :: l, [], x, u, h => by simp at h
  | d :: l, v :: us, x, u, h => by
    have := flatWt_snoc l us x u (by simpa using h)
    simp [flatWt, this]
/-- Those that wait lie behind v. -/
structure WtAt (base : Nat) (w : World) (v : Value) (l : List Wt) (us : List Value) : Prop where
  len : us.length = l.length
  own : w.ownsRow base 234 2 v l.length (flatWt l us)
  each : ∀ (i : Nat) x u, l[i]? = some x → us[i]? = some u → ∃ ts, WaysAt w u x.2 ts
theorem WtAt.below {base : Nat} {w w' : World} {v : Value} {l : List Wt} {us : List Value} (h : WtAt base w v l us) (hb : Below w.heap.size w w') : WtAt base w' v l us :=
  ⟨h.len, own_below h.own hb, fun i x u h1 h2 => by obtain ⟨ts, ht⟩ := h.each i x u h1 h2; exact ⟨ts, ht.below hb⟩⟩
theorem WtAt.mono {base base' : Nat} {w : World} {v : Value} {l : List Wt} {us : List Value} (h : WtAt base w v l us) (hb : base' ≤ base) : WtAt base' w v l us := ⟨h.len, own_mono h.own hb, h.each⟩
theorem WtAt.get {base : Nat} {w : World} {a : Option Addr} {c : Nat} {l : List Wt} {us : List Value} {n : Nat} {x : Wt} (h : WtAt base w (.slice a l.length c) l us) (hx : l[n]? = some x) :
    ∃ g u, a = some ⟨g, 0, none⟩ ∧ base ≤ g ∧ g < w.heap.size ∧ us[n]? = some u ∧ w.cell? ⟨g, n * 2, none⟩ = some (.int .i64 x.1) ∧ w.cell? ⟨g, n * 2 + 1, none⟩ = some u := by
  have hlt : n < l.length := (List.getElem?_eq_some_iff.1 hx).1
  have hl := h.len
  obtain ⟨g, h1, h2, hg, hc, hcell⟩ := own_some h.own (by omega)
  have hu : us[n]? = some us[n] := List.getElem?_eq_getElem (by omega)
  obtain ⟨f0, f1⟩ := flatWt_get l us n x _ hx hu
  exact ⟨g, _, h1, h2, hg, hu, (hcell _ (by omega)).trans f0, (hcell _ (by omega)).trans f1⟩
theorem idxF_any {α : Type} (l : List α) (f : α → Bool) : decide (0 ≤ idxF l f) = l.any f := by
  unfold idxF
  cases hf : l.findIdx? f with
  | none =>
    have := List.findIdx?_eq_none_iff.1 hf
    rw [Bool.eq_iff_iff]
    simp only [decide_eq_true_eq, List.any_eq_true]
    constructor
    · intro h; omega
    · rintro ⟨x, hx, hx2⟩
      have := this x hx
      rw [this] at hx2; cases hx2
  | some n =>
    obtain ⟨hn, h1, _⟩ := List.findIdx?_eq_some_iff_getElem.1 hf
    rw [Bool.eq_iff_iff]
    simp only [decide_eq_true_eq, List.any_eq_true]
    exact ⟨fun _ => ⟨l[n], List.getElem_mem hn, h1⟩, fun _ => by omega⟩

set_option maxHeartbeats 4000000 in
set_option maxRecDepth 100000 in
theorem tIndexFunc_any {v : Value} {l : List Wt} {us : List Value} (f : Wt → Bool) {w : World} (g : Nat) (lb : Array Value) (eg : ∀ args w, (callFunc g args).run Tryz.prog w = .ok (.enter g args) w)
    (hv : WtAt 0 w v l us) (hl : l.length < 1000)
    (hp : ∀ (W : World) (x : Wt) (u : Value), x ∈ l → Below w.heap.size w W → Calls Tryz.prog g (#[.agg #[.int .i64 x.1, u]] ++ lb) W fun e w' => e = .returned (.bool (f x)) ∧ Below W.heap.size W w') :
    Calls Tryz.prog 215 #[v, .func (.func g) #[] lb] w fun e w' => e = .returned (.int .i64 (idxF l f)) ∧ Below w.heap.size w w' := by
  obtain ⟨a, c, rfl⟩ := own_form hv.own
  have HV := Hid.mk hv
  have HP := Hid.mk hp
  clear hv hp
  go_enter Tryz.func215, Tryz.ntmps215
  go_wp2
  go_loopw [5, 8] (fun _ s8 wr => ∃ n : Nat, s8 = .int .i64 n ∧ n ≤ l.length ∧ Hid (∀ (j : Nat) (y : Wt), j < n → l[j]? = some y → f y = false) ∧ Hid (Below w.heap.size w wr)) (fun _ s8 _ => l.length - (intOf s8).toNat)
  case atStart => exact ⟨0, rfl, Nat.zero_le _, fun j y hj => absurd hj (Nat.not_lt_zero _), Below.refl _ _⟩
  case round =>
    obtain ⟨n, rfl, hn, HF, HB⟩ := hrel
    have hsz : w.heap.size ≤ wr.heap.size := HB.out.size
    by_cases hlt : n < l.length
    · obtain ⟨x, hx⟩ : ∃ x, l[n]? = some x := ⟨_, List.getElem?_eq_getElem hlt⟩
      obtain ⟨gb, u, rfl, _, hg, _, k0, k1⟩ := HV.out.get hx
      have c0 := (HB.out.cell (p := ⟨gb, n * 2, none⟩) hg).trans k0
      have c1 := (HB.out.cell (p := ⟨gb, n * 2 + 1, none⟩) hg).trans k1
      have hlt' : (n : Int) < (l.length : Int) := by omega
      have hgw : gb < wr.heap.size := by omega
      have HC := Hid.mk (HP.out wr x u (List.mem_of_getElem? hx) HB.out)
      have HX := Hid.mk hx
      clear hx k0 k1
      cases hbt : f x
      · have HT := Hid.mk hbt
        rw [hbt] at HC
        clear hbt
        go_wp2_with (go_at_fn g; refine HC.out.mono ?_; rintro e w1 ⟨rfl, hb2⟩; have HB2 := Hid.mk hb2; clear hb2)
        go_roundw
        case rel =>
          refine ⟨n + 1, by go_num, by omega, fun j y hj hy => ?_, HB.out.trans (HB2.out.mono hsz)⟩
          by_cases e : j = n
          · subst e
            rw [HX.out] at hy
            cases hy
            exact HT.out
          · exact HF.out j y (by omega) hy
        case measure => simp [intOf]; omega
      · have HT := Hid.mk hbt
        rw [hbt] at HC
        clear hbt
        go_wp2_with (go_at_fn g; refine HC.out.mono ?_; rintro e w1 ⟨rfl, hb2⟩; have HB2 := Hid.mk hb2; clear hb2)
        go_ret
        exact ⟨ret_i64 (idxF_hit HX.out HT.out HF.out).symm, HB.out.trans (HB2.out.mono hsz)⟩
    · obtain rfl : n = l.length := by omega
      go_wp2
      go_ret
      exact ⟨ret_i64 (idxF_miss fun j y hy => HF.out j y (List.getElem?_eq_some_iff.1 hy).1 hy).symm, HB.out⟩

set_option maxHeartbeats 1000000 in
set_option maxRecDepth 100000 in
theorem tContainsFunc_any {v : Value} {l : List Wt} {us : List Value} (f : Wt → Bool) {w : World} (g : Nat) (lb : Array Value) (eg : ∀ args w, (callFunc g args).run Tryz.prog w = .ok (.enter g args) w)
    (hv : WtAt 0 w v l us) (hl : l.length < 1000)
    (hp : ∀ (W : World) (x : Wt) (u : Value), x ∈ l → Below w.heap.size w W → Calls Tryz.prog g (#[.agg #[.int .i64 x.1, u]] ++ lb) W fun e w' => e = .returned (.bool (f x)) ∧ Below W.heap.size W w') :
    Calls Tryz.prog 212 #[v, .func (.func g) #[] lb] w fun e w' => e = .returned (.bool (l.any f)) ∧ Below w.heap.size w w' := by
  have HI := Hid.mk (tIndexFunc_any f g lb eg hv hl hp)
  have HA := Hid.mk (idxF_any l f)
  clear hv hp
  generalize idxF l f = I at *
  go_enter Tryz.func212, Tryz.ntmps212
  go_wp2_with (go_at_call 215; refine HI.out.mono ?_; rintro e w1 ⟨rfl, hb1⟩; have HB1 := Hid.mk hb1; clear hb1)
  go_ret
  exact ⟨ret_bool (by rw [← HA.out]), HB1.out⟩

set_option maxHeartbeats 1000000 in
set_option maxRecDepth 100000 in
theorem allOf1_any (p : Int) (u : Value) (q : Int) (B : Nat) (W : World) (hB : B < W.heap.size) (hc : W.cell? ⟨B, 0, none⟩ = some (.int .i64 q)) :
    Calls Tryz.prog 213 (#[.agg #[.int .i64 p, u]] ++ #[.pointer (some ⟨B, 0, none⟩)]) W fun e w' => e = .returned (.bool (decide (p = q))) ∧ Below W.heap.size W w' := by
  show Calls Tryz.prog 213 #[_, _] W _
  go_enter Tryz.func213, Tryz.ntmps213
  go_wp2
  go_ret
  exact ⟨ret_bool (by rw [Bool.eq_iff_iff]; simp), (Below.refl _ _).alloc (Nat.le_refl _) _⟩
end Go.Proofs.YtaicdjhblbobbaaGreat

/- Contracts of package stuck, on: who is bound, and the greatest set. -/
namespace Go.Proofs.YtaicdjhblbobbaaGreat
open Go.RowKit Go.Lib

theorem any_mem (l : List Wt) (q : Int) : (l.any fun x => decide (x.1 = q)) = decide (q ∈ l.map (·.1)) := by
  rw [Bool.eq_iff_iff]; simp

set_option maxHeartbeats 4000000 in
set_option maxRecDepth 100000 in
theorem allOf_any {v : Value} {l : List Wt} {us : List Value} {pv : Value} {ps : List Int} {w : World} (hv : WtAt 0 w v l us) (hl : l.length < 1000) (hps : w.ownsRow 0 3 1 pv ps.length (ints ps)) (hpl : ps.length < 1000) :
    Calls Tryz.prog 208 #[pv, v] w fun e w' => e = .returned (.bool (ps.all fun q => decide (q ∈ l.map (·.1)))) ∧ Below w.heap.size w w' := by
  obtain ⟨a, c, rfl⟩ := own_form hps
  have HP := Hid.mk hps
  have HC := Hid.mk (fun (W : World) (B : Nat) (q : Int) (hW : Below w.heap.size w W) (hB : B < W.heap.size) (hc : W.cell? ⟨B, 0, none⟩ = some (.int .i64 q)) =>
    tContainsFunc_any (fun x => decide (x.1 = q)) (w := W) 213 #[.pointer (some ⟨B, 0, none⟩)] (enters_of Tryz.func213 (by kernel_rfl) rfl) (hv.below hW) hl
      (fun W' x u _ hW' => allOf1_any x.1 u q B W' (by have := hW'.size; omega) ((hW'.cell (p := ⟨B, 0, none⟩) hB).trans hc)))
  clear hv hps
  go_enter Tryz.func208, Tryz.ntmps208
  go_wp2
  go_loopw [6, 9] (fun _ s9 wr => ∃ n : Nat, s9 = .int .i64 n ∧ n ≤ ps.length ∧ Hid (∀ (j : Nat) (y : Int), j < n → ps[j]? = some y → y ∈ l.map (·.1)) ∧ Hid (Below w.heap.size w wr)) (fun _ s9 _ => ps.length - (intOf s9).toNat)
  case atStart => exact ⟨0, rfl, Nat.zero_le _, fun j y hj => absurd hj (Nat.not_lt_zero _), Below.refl _ _⟩
  case round =>
    obtain ⟨n, rfl, hn, HF, HB⟩ := hrel
    have hsz : w.heap.size ≤ wr.heap.size := HB.out.size
    by_cases hlt : n < ps.length
    · obtain ⟨x, hx⟩ : ∃ x, ps[n]? = some x := ⟨_, List.getElem?_eq_getElem hlt⟩
      obtain ⟨gb, rfl, _, hg, _, hcell⟩ := own_some HP.out (by omega)
      have c0 : wr.cell? ⟨gb, n, none⟩ = some (.int .i64 x) := (HB.out.cell (p := ⟨gb, n, none⟩) hg).trans ((hcell n (by omega)).trans (ints_get hx))
      have hlt' : (n : Int) < (ps.length : Int) := by omega
      have hgw : gb < wr.heap.size := by omega
      have HX := Hid.mk hx
      have hCC := HC.out (wr.alloc (.cells #[.int .i64 x] 3)) wr.heap.size x (HB.out.alloc hsz _) (by simp) (by simp)
      rw [any_mem] at hCC
      have HCC := Hid.mk hCC
      clear hx hcell hCC
      by_cases hm : x ∈ l.map (·.1)
      · have HM := Hid.mk hm
        have hd : decide (x ∈ l.map (·.1)) = true := by simpa using hm
        rw [hd] at HCC
        clear hm hd
        go_wp2_with (go_at_call 212; refine HCC.out.mono ?_; rintro e w1 ⟨rfl, hb2⟩; have HB2 := Hid.mk hb2; clear hb2)
        go_roundw
        case rel =>
          refine ⟨n + 1, by go_num, by omega, fun j y hj hy => ?_, (HB.out.alloc hsz _).trans (HB2.out.mono (by simp; omega))⟩
          by_cases e : j = n
          · subst e
            rw [HX.out] at hy
            cases hy
            exact HM.out
          · exact HF.out j y (by omega) hy
        case measure => simp [intOf]; omega
      · have HM := Hid.mk hm
        have hd : decide (x ∈ l.map (·.1)) = false := by simpa using hm
        rw [hd] at HCC
        clear hm hd
        go_wp2_with (go_at_call 212; refine HCC.out.mono ?_; rintro e w1 ⟨rfl, hb2⟩; have HB2 := Hid.mk hb2; clear hb2)
        go_ret
        refine ⟨ret_bool ?_, (HB.out.alloc hsz _).trans (HB2.out.mono (by simp; omega))⟩
        symm
        rw [List.all_eq_false]
        exact ⟨x, List.mem_of_getElem? HX.out, by simpa using HM.out⟩
    · obtain rfl : n = ps.length := by omega
      go_wp2
      go_ret
      refine ⟨ret_bool ?_, HB.out⟩
      symm
      rw [List.all_eq_true]
      intro q hq
      obtain ⟨j, hj⟩ := List.mem_iff_getElem?.1 hq
      exact decide_eq_true (HF.out j q (List.getElem?_eq_some_iff.1 hj).1 hj)

set_option maxHeartbeats 4000000 in
set_option maxRecDepth 100000 in
theorem wIndexFunc_any {v : Value} {L : List (List Int)} {us : List Value} (f : List Int → Bool) {w : World} (g : Nat) (lb : Array Value) (eg : ∀ args w, (callFunc g args).run Tryz.prog w = .ok (.enter g args) w)
    (hv : WaysAt w v L us) (hl : L.length < 1000)
    (hp : ∀ (W : World) (c : List Int) (t : Value), c ∈ L → w.ownsRow 0 3 1 t c.length (ints c) → Below w.heap.size w W → Calls Tryz.prog g (#[t] ++ lb) W fun e w' => e = .returned (.bool (f c)) ∧ Below W.heap.size W w') :
    Calls Tryz.prog 211 #[v, .func (.func g) #[] lb] w fun e w' => e = .returned (.int .i64 (idxF L f)) ∧ Below w.heap.size w w' := by
  obtain ⟨a, c, rfl⟩ := own_form hv.own
  have HV := Hid.mk hv
  have HP := Hid.mk hp
  clear hv hp
  go_enter Tryz.func211, Tryz.ntmps211
  go_wp2
  go_loopw [5, 8] (fun _ s8 wr => ∃ n : Nat, s8 = .int .i64 n ∧ n ≤ L.length ∧ Hid (∀ (j : Nat) (y : List Int), j < n → L[j]? = some y → f y = false) ∧ Hid (Below w.heap.size w wr)) (fun _ s8 _ => L.length - (intOf s8).toNat)
  case atStart => exact ⟨0, rfl, Nat.zero_le _, fun j y hj => absurd hj (Nat.not_lt_zero _), Below.refl _ _⟩
  case round =>
    obtain ⟨n, rfl, hn, HF, HB⟩ := hrel
    have hsz : w.heap.size ≤ wr.heap.size := HB.out.size
    by_cases hlt : n < L.length
    · obtain ⟨x, hx⟩ : ∃ x, L[n]? = some x := ⟨_, List.getElem?_eq_getElem hlt⟩
      obtain ⟨gb, rfl, _, hg, _, hcell⟩ := own_some HV.out.own (by omega)
      have hul := HV.out.len
      have hu : us[n]? = some us[n] := List.getElem?_eq_getElem (by omega)
      have c0 := (HB.out.cell (p := ⟨gb, n, none⟩) hg).trans ((hcell n (by omega)).trans hu)
      have HC := Hid.mk (HP.out wr x _ (List.mem_of_getElem? hx) (HV.out.each n x _ hx hu) HB.out)
      generalize us[n] = t at *
      have hlt' : (n : Int) < (L.length : Int) := by omega
      have hgw : gb < wr.heap.size := by omega
      have HX := Hid.mk hx
      clear hx hcell hu
      cases hbt : f x
      · have HT := Hid.mk hbt
        rw [hbt] at HC
        clear hbt
        go_wp2_with (go_at_fn g; refine HC.out.mono ?_; rintro e w1 ⟨rfl, hb2⟩; have HB2 := Hid.mk hb2; clear hb2)
        go_roundw
        case rel =>
          refine ⟨n + 1, by go_num, by omega, fun j y hj hy => ?_, HB.out.trans (HB2.out.mono hsz)⟩
          by_cases e : j = n
          · subst e
            rw [HX.out] at hy
            cases hy
            exact HT.out
          · exact HF.out j y (by omega) hy
        case measure => simp [intOf]; omega
      · have HT := Hid.mk hbt
        rw [hbt] at HC
        clear hbt
        go_wp2_with (go_at_fn g; refine HC.out.mono ?_; rintro e w1 ⟨rfl, hb2⟩; have HB2 := Hid.mk hb2; clear hb2)
        go_ret
        exact ⟨ret_i64 (idxF_hit HX.out HT.out HF.out).symm, HB.out.trans (HB2.out.mono hsz)⟩
    · obtain rfl : n = L.length := by omega
      go_wp2
      go_ret
      exact ⟨ret_i64 (idxF_miss fun j y hy => HF.out j y (List.getElem?_eq_some_iff.1 hy).1 hy).symm, HB.out⟩

set_option maxHeartbeats 1000000 in
set_option maxRecDepth 100000 in
theorem wContainsFunc_any {v : Value} {L : List (List Int)} {us : List Value} (f : List Int → Bool) {w : World} (g : Nat) (lb : Array Value) (eg : ∀ args w, (callFunc g args).run Tryz.prog w = .ok (.enter g args) w)
    (hv : WaysAt w v L us) (hl : L.length < 1000)
    (hp : ∀ (W : World) (c : List Int) (t : Value), c ∈ L → w.ownsRow 0 3 1 t c.length (ints c) → Below w.heap.size w W → Calls Tryz.prog g (#[t] ++ lb) W fun e w' => e = .returned (.bool (f c)) ∧ Below W.heap.size W w') :
    Calls Tryz.prog 206 #[v, .func (.func g) #[] lb] w fun e w' => e = .returned (.bool (L.any f)) ∧ Below w.heap.size w w' := by
  have HI := Hid.mk (wIndexFunc_any f g lb eg hv hl hp)
  have HA := Hid.mk (idxF_any L f)
  clear hv hp
  generalize idxF L f = I at *
  go_enter Tryz.func206, Tryz.ntmps206
  go_wp2_with (go_at_call 211; refine HI.out.mono ?_; rintro e w1 ⟨rfl, hb1⟩; have HB1 := Hid.mk hb1; clear hb1)
  go_ret
  exact ⟨ret_bool (by rw [← HA.out]), HB1.out⟩

/-- Lists of processes that are short. -/
def Wt.short (x : Wt) : Prop := x.2.length < 1000 ∧ ∀ c, c ∈ x.2 → c.length < 1000

set_option maxHeartbeats 1000000 in
set_option maxRecDepth 100000 in
theorem boundBy1_any {v : Value} {l : List Wt} {us : List Value} (t : Value) (ps : List Int) (B : Nat) {W : World} (hv : WtAt 0 W v l us) (hl : l.length < 1000) (ht : W.ownsRow 0 3 1 t ps.length (ints ps)) (hpl : ps.length < 1000) (hc : W.cell? ⟨B, 0, none⟩ = some v) :
    Calls Tryz.prog 207 (#[t] ++ #[.pointer (some ⟨B, 0, none⟩)]) W fun e w' => e = .returned (.bool (ps.all fun q => decide (q ∈ l.map (·.1)))) ∧ Below W.heap.size W w' := by
  show Calls Tryz.prog 207 #[_, _] W _
  have HA := Hid.mk (allOf_any hv hl ht hpl)
  obtain ⟨a, c, rfl⟩ := own_form hv.own
  clear hv ht
  generalize (ps.all fun q => decide (q ∈ l.map (·.1))) = R at *
  go_enter Tryz.func207, Tryz.ntmps207
  go_wp2_with (go_at_call 208; refine HA.out.mono ?_; rintro e w1 ⟨rfl, hb1⟩; have HB1 := Hid.mk hb1; clear hb1)
  go_ret
  exact ⟨rfl, HB1.out⟩

set_option maxHeartbeats 1000000 in
set_option maxRecDepth 100000 in
theorem boundBy_any {v : Value} {l : List Wt} {us : List Value} (x : Wt) (u : Value) (ts : List Value) {w : World} (hv : WtAt 0 w v l us) (hl : l.length < 1000) (hx : x.short) (hu : WaysAt w u x.2 ts) :
    Calls Tryz.prog 195 #[.agg #[.int .i64 x.1, u], v] w fun e w' => e = .returned (.bool (Wt.bound (l.map (·.1)) x)) ∧ Below w.heap.size w w' := by
  have HC := Hid.mk (fun (W : World) (hW : Below w.heap.size w W) (hB : w.heap.size + 1 < W.heap.size) (hc : W.cell? ⟨w.heap.size + 1, 0, none⟩ = some v) =>
    wContainsFunc_any (fun c => c.all fun q => decide (q ∈ l.map (·.1))) (w := W) 207 #[.pointer (some ⟨w.heap.size + 1, 0, none⟩)] (enters_of Tryz.func207 (by kernel_rfl) rfl) (hu.below hW) hx.1
      (fun W' c t hc' ho hW' => boundBy1_any t c (w.heap.size + 1) ((hv.below hW).below hW') hl (own_below ho hW') (hx.2 c hc') ((hW'.cell (p := ⟨w.heap.size + 1, 0, none⟩) hB).trans hc)))
  have HB0 := Hid.mk (show Wt.bound (l.map (·.1)) x = x.2.any (fun c => c.all fun q => decide (q ∈ l.map (·.1))) from rfl)
  rw [← HB0.out] at HC
  obtain ⟨a, c, rfl⟩ := own_form hv.own
  obtain ⟨a', c', rfl⟩ := own_form hu.own
  clear hv hu HB0
  generalize Wt.bound (l.map (·.1)) x = R at *
  have HB := Hid.mk (((Below.refl w.heap.size w).alloc (Nat.le_refl _) (.cells #[.int .i64 x.1, .slice a' x.2.length c'] 234)).alloc (by simp) (.cells #[.slice a l.length c] 232))
  go_enter Tryz.func195, Tryz.ntmps195
  go_wp2_with (go_at_call 206; refine (HC.out _ HB.out (by simp) (by simp)).mono ?_; rintro e w1 ⟨rfl, hb1⟩; have HB1 := Hid.mk hb1; clear hb1)
  go_ret
  exact ⟨rfl, HB.out.trans (HB1.out.mono (by simp; omega))⟩
end Go.Proofs.YtaicdjhblbobbaaGreat

/- Contracts of package stuck, on: the greatest set. -/
namespace Go.Proofs.YtaicdjhblbobbaaGreat
open Go.RowKit Go.Lib

theorem Tryz.infoWaiter : (Tryz.prog.info? 234).map (fun i => (i.zero, i.size, i.bytes)) = some (some (.agg #[.int .i64 0, .slice none 0 0]), 2, 32) := by kernel_rfl
theorem filt_snoc {l : List Wt} {f : Wt → Bool} {n : Nat} {x : Wt} (h : l[n]? = some x) : (l.take (n + 1)).filter f = (l.take n).filter f ++ (if f x = true then [x] else []) := by
  rw [List.take_add_one, h, List.filter_append]
  congr 1
  cases hb : f x <;> simp [hb]

set_option maxHeartbeats 4000000 in
set_option maxRecDepth 100000 in
theorem bound_any {v : Value} {l : List Wt} {us : List Value} {w : World} (hv : WtAt 0 w v l us) (hl : l.length < 1000) (hs : ∀ x, x ∈ l → x.short) :
    Calls Tryz.prog 178 #[v] w fun e w' => ∃ v' us', e = .returned v' ∧ WtAt w.heap.size w' v' (boundF l) us' ∧ Below w.heap.size w w' := by
  obtain ⟨a, c, rfl⟩ := own_form hv.own
  have HV := Hid.mk hv
  have HSh := Hid.mk hs
  have HBF := Hid.mk (show boundF l = l.filter (Wt.bound (l.map (·.1))) from rfl)
  clear hv hs
  rw [HBF.out]
  generalize hf : Wt.bound (l.map (·.1)) = f
  have HFF := Hid.mk hf
  clear HBF hf
  go_enter Tryz.func178, Tryz.ntmps178
  go_wp2
  go_loopw [3, 8] (fun s3 s8 wr => ∃ (n : Nat) (us3 : List Value), s8 = .int .i64 n ∧ n ≤ l.length ∧ Hid (wr.ownsRow w.heap.size 234 2 s3 ((l.take n).filter f).length (flatWt ((l.take n).filter f) us3)) ∧ Hid (us3.length = ((l.take n).filter f).length) ∧ Hid (∀ (i : Nat) x u, ((l.take n).filter f)[i]? = some x → us3[i]? = some u → ∃ ts, WaysAt w u x.2 ts) ∧ Hid (Below w.heap.size w wr)) (fun _ s8 _ => l.length - (intOf s8).toNat)
  case atStart => exact ⟨0, [], rfl, Nat.zero_le _, World.ownsRow_nil _ _ _ _, rfl, fun i x u h => by simp at h, Below.refl _ _⟩
  case round =>
    obtain ⟨n, us3, rfl, hn, HO, HL, HE, HB⟩ := hrel
    have hsz : w.heap.size ≤ wr.heap.size := HB.out.size
    by_cases hlt : n < l.length
    · obtain ⟨x, hx⟩ : ∃ x, l[n]? = some x := ⟨_, List.getElem?_eq_getElem hlt⟩
      obtain ⟨gb, u, rfl, _, hg, hu, k0, k1⟩ := HV.out.get hx
      obtain ⟨ts, hts⟩ := HV.out.each n x u hx hu
      obtain ⟨ua, uc, rfl⟩ := own_form hts.own
      have c0 := (HB.out.cell (p := ⟨gb, n * 2, none⟩) hg).trans k0
      have c1 := (HB.out.cell (p := ⟨gb, n * 2 + 1, none⟩) hg).trans k1
      have hlt' : (n : Int) < (l.length : Int) := by omega
      have hgw : gb < wr.heap.size := by omega
      have HS := Hid.mk (filt_snoc (f := f) hx)
      have hln : ((l.take n).filter f).length ≤ n := Nat.le_trans (List.length_filter_le _ _) (by simp; omega)
      have hb1 := HB.out.alloc hsz (.cells #[.int .i64 x.1, .slice ua x.2.length uc] 234)
      have hC := boundBy_any x (.slice ua x.2.length uc) ts (HV.out.below hb1) hl (HSh.out x (List.mem_of_getElem? hx)) (hts.below hb1)
      rw [HFF.out] at hC
      have HC := Hid.mk hC
      have HTS := Hid.mk hts
      clear hx hu hts k0 k1 hC hb1
      cases hbt : f x
      · have HT := Hid.mk hbt
        rw [hbt] at HC
        clear hbt
        go_wp2_with (go_at_call 195; refine HC.out.mono ?_; rintro e w1 ⟨rfl, hb2⟩; have HB2 := Hid.mk hb2; clear hb2)
        go_roundw
        case rel =>
          have hbw : Below wr.heap.size wr w1 := ((Below.refl _ _).alloc (Nat.le_refl _) _).trans (HB2.out.mono (by simp))
          refine ⟨n + 1, us3, by go_num, by omega, ?_, ?_, ?_, HB.out.trans (hbw.mono hsz)⟩
          all_goals rw [HS.out, HT.out]
          all_goals simp only [Bool.false_eq_true, if_false, List.append_nil]
          · exact own_below HO.out hbw
          · exact HL.out
          · exact HE.out
        case measure => simp [intOf]; omega
      · have HT := Hid.mk hbt
        rw [hbt] at HC
        clear hbt
        go_wp2_with (first
          | (go_at_call 195; refine HC.out.mono ?_; rintro e w1 ⟨rfl, hb2⟩; have hz2 := hb2.size; simp at hz2; have e0 : w1.cell? ⟨wr.heap.size, 0, none⟩ = some (.int .i64 x.1) := ((bcells hb2).1 _ _ (by simp)).trans (by simp); have e1 : w1.cell? ⟨wr.heap.size, 1, none⟩ = some (.slice ua x.2.length uc) := ((bcells hb2).1 _ _ (by simp)).trans (by simp); have HB2 := Hid.mk hb2; clear hb2)
          | (at_builtin; refine wpList_snoc rfl _ _ _ rfl Tryz.underlying232 Tryz.infoWaiter rfl (by decide) (by decide) rfl (own_below HO.out (((Below.refl _ _).alloc (Nat.le_refl _) _).trans (HB2.out.mono (by simp)))) (by omega) (by omega) (cs := #[.int .i64 x.1, .slice ua x.2.length uc]) rfl (by simp) rfl (by simp [Value.oneCell']) ?_; intro v2 w2 ho2 hb3 hz3 hold3; have HO2 := Hid.mk ho2; have HB3 := Hid.mk hb3; clear ho2 hb3 hold3))
        go_roundw
        case rel =>
          have hbw : Below wr.heap.size wr w1 := ((Below.refl _ _).alloc (Nat.le_refl _) _).trans (HB2.out.mono (by simp))
          refine ⟨n + 1, us3 ++ [.slice ua x.2.length uc], by go_num, by omega, ?_, ?_, ?_, (HB.out.trans (hbw.mono hsz)).trans HB3.out⟩
          all_goals rw [HS.out, HT.out]
          all_goals simp only [if_true]
          · rw [List.length_append, flatWt_snoc _ _ _ _ HL.out]
            exact HO2.out
          · rw [List.length_append, List.length_append, HL.out]
            rfl
          · intro i y t hy ht
            rcases Nat.lt_or_ge i ((l.take n).filter f).length with hi | hi
            · rw [List.getElem?_append_left hi] at hy
              rw [List.getElem?_append_left (by rw [HL.out]; exact hi)] at ht
              exact HE.out i y t hy ht
            · rw [List.getElem?_append_right hi] at hy
              rw [List.getElem?_append_right (by rw [HL.out]; exact hi), HL.out] at ht
              cases hz : i - ((l.take n).filter f).length with
              | zero =>
                rw [hz] at hy ht
                simp at hy ht
                subst hy ht
                exact ⟨ts, HTS.out⟩
              | succ k => rw [hz] at hy; simp at hy
        case measure => simp [intOf]; omega
    · obtain rfl : n = l.length := by omega
      have HO3 := HO.out
      have HL3 := HL.out
      have HE3 := HE.out
      rw [List.take_of_length_le (Nat.le_refl _)] at HO3 HL3 HE3
      have HO4 := Hid.mk HO3
      have HL4 := Hid.mk HL3
      have HE4 := Hid.mk HE3
      clear HO3 HL3 HE3
      go_wp2
      go_ret
      exact ⟨_, us3, rfl, ⟨HL4.out, HO4.out, fun i x u h1 h2 => by obtain ⟨ts, ht⟩ := HE4.out i x u h1 h2; exact ⟨ts, ht.below HB.out⟩⟩, HB.out⟩

theorem greatN_short {l : List Wt} (h : ∀ x, x ∈ l → x.short) (n : Nat) : (∀ x, x ∈ greatN n l → x.short) ∧ (greatN n l).length ≤ l.length := by
  obtain ⟨f, hf⟩ := greatN_filter n l
  rw [hf]
  exact ⟨fun x hx => h x (List.mem_filter.1 hx).1, List.length_filter_le _ _⟩

def lenV : Value → Nat
  | .slice _ k _ => k
  | _ => 0

set_option maxHeartbeats 4000000 in
set_option maxRecDepth 100000 in
theorem Greatest_any {v : Value} {l : List Wt} {us : List Value} {w : World} (hv : WtAt 0 w v l us) (hl : l.length < 1000) (hs : ∀ x, x ∈ l → x.short) :
    Calls Tryz.prog 151 #[v] w fun e w' => ∃ v' us', e = .returned v' ∧ WtAt 0 w' v' (greatF l) us' ∧ Below w.heap.size w w' := by
  have HV := Hid.mk hv
  have HSh := Hid.mk hs
  clear hv hs
  go_enter Tryz.func151, Tryz.ntmps151
  go_wp2_with fail
  go_loopw [0, 3] (fun s0 _ wr => ∃ (n : Nat) (us0 : List Value), Hid (n + (greatN n l).length ≤ l.length) ∧ Hid (WtAt 0 wr s0 (greatN n l) us0) ∧ Hid (Below w.heap.size w wr)) (fun s0 _ _ => lenV s0)
  case atStart => exact ⟨0, us, (show 0 + (greatN 0 l).length ≤ l.length from by simp [greatN]), HV.out, Below.refl _ _⟩
  case round =>
    obtain ⟨n, us0, HN, HW, HB⟩ := hrel
    obtain ⟨a, c, rfl⟩ := own_form HW.out.own
    have hsz : w.heap.size ≤ wr.heap.size := HB.out.size
    obtain ⟨hsh, hlen⟩ := greatN_short HSh.out n
    have hC := bound_any HW.out (by omega) hsh
    rw [← greatN_succ] at hC
    have HC := Hid.mk hC
    have hle := boundF_len (greatN n l)
    rw [← greatN_succ] at hle
    clear hC hsh
    by_cases heq : (greatN (n + 1) l).length = (greatN n l).length
    · have HEQ := Hid.mk heq
      have heqI : ((greatN (n + 1) l).length : Int) = ((greatN n l).length : Int) := by omega
      have HFin : Hid (greatF l = greatN (n + 1) l) := by
        have h1 : boundF (greatN n l) = greatN n l := boundF_same (by rw [← greatN_succ]; exact heq)
        have := HN.out
        rw [greatN_succ, h1]
        exact greatF_done (by omega) h1
      go_wp2_with (go_at_call 178; refine HC.out.mono ?_; rintro e w1 ⟨v1, us1, rfl, ho1, hb1⟩; obtain ⟨a1, c1, rfl⟩ := own_form ho1.own; have HO1 := Hid.mk ho1; have HB1 := Hid.mk hb1; clear ho1 hb1)
      go_ret
      refine ⟨_, us1, rfl, ?_, HB.out.trans (HB1.out.mono hsz)⟩
      rw [HFin.out]
      have h1 := HO1.out.mono (Nat.zero_le _)
      have e1 : Value.slice a1 (greatN (n + 1) l).length c1 = .slice a1 (greatN n l).length c1 := by rw [HEQ.out]
      rw [e1] at h1
      exact h1
    · have heqI : ¬ ((greatN (n + 1) l).length : Int) = ((greatN n l).length : Int) := by omega
      have HN1 : Hid (n + 1 + (greatN (n + 1) l).length ≤ l.length) := by
        have := HN.out
        show _ ≤ _
        omega
      go_wp2_with (go_at_call 178; refine HC.out.mono ?_; rintro e w1 ⟨v1, us1, rfl, ho1, hb1⟩; obtain ⟨a1, c1, rfl⟩ := own_form ho1.own; have HO1 := Hid.mk ho1; have HB1 := Hid.mk hb1; clear ho1 hb1)
      go_roundw
      case rel => exact ⟨n + 1, us1, HN1.out, HO1.out.mono (Nat.zero_le _), HB.out.trans (HB1.out.mono hsz)⟩
      case measure =>
        show (greatN (n + 1) l).length < (greatN n l).length
        omega
end Go.Proofs.YtaicdjhblbobbaaGreat

/- What a Kernel is in memory, held against a state of the model. -/
namespace Go.Proofs.YtaicdjhblbobbaaGreat
open Go.RowKit Go.Lib

/-- What a lock that is asked for keeps to. -/
structure DS.AskSm (s : DS) (a : Ask) : Prop where
  file : a.file < 3
  o : a.whole = true → a.o < s.N
  rg : a.whole = false → 0 ≤ a.f ∧ a.f ≤ a.t ∧ a.t ≤ 63
/-- Plain bounds of a state. -/
structure DS.Sm (s : DS) : Prop where
  f : ∀ p d o, s.F p d = some o → o < s.N
  o : ∀ o, s.O o < 3
  len : ∀ f, (s.R f).length ≤ 12
  run : ∀ f x, x ∈ s.R f → 0 ≤ x.f ∧ x.f ≤ x.t ∧ x.t ≤ 63
  rp : ∀ f x, x ∈ s.R f → x.p ∈ ps6
  w : ∀ f x, x ∈ s.W f → x.o < s.N
  wl : ∀ f, (s.W f).length ≤ 100
  q : ∀ a, a ∈ s.Q → s.AskSm a
  ql : s.Q.length ≤ 7

theorem nodup_sub {α : Type} [DecidableEq α] : ∀ (l m : List α), l.Nodup → (∀ x, x ∈ l → x ∈ m) → l.length ≤ m.length
  | [], m, _, _ => Nat.zero_le _
  | a :: l, m, hn, h => by
    rw [List.nodup_cons] at hn
    have ha := h a List.mem_cons_self
    have := nodup_sub l (m.erase a) hn.2 (fun x hx => (List.mem_erase_of_ne (fun (e : x = a) => hn.1 (by rw [← e]; exact hx))).2 (h x (List.mem_cons_of_mem _ hx)))
    rw [List.length_erase_of_mem ha] at this
    have := List.length_pos_of_mem ha
    simp only [List.length_cons]
    omega
theorem ones_le {l : List Ask} (h : l.Pairwise fun a b => a.p ≠ b.p) (hp : ∀ a, a ∈ l → a.p ∈ ps6) : l.length ≤ 6 := by
  have := nodup_sub (l.map (·.p)) ps6 (by rw [List.nodup_iff_pairwise_ne, List.pairwise_map]; exact h) (fun x hx => by
    obtain ⟨a, ha, rfl⟩ := List.mem_map.1 hx
    exact hp a ha)
  simpa [ps6] using this
theorem DS.AskOk.sm {s : DS} (hb : s.Bas) {a : Ask} (h : s.AskOk a) : s.AskSm a :=
  ⟨h.file, fun e => by
    obtain ⟨d, _, hd⟩ := DS.has_iff.1 (h.wh e).1
    exact (hb.f _ _ _ hd).2.2.2, h.rg⟩
theorem DS.Bas.inN {s : DS} (h : s.Bas) {o : Nat} (hu : s.inUse o = true) : o < s.N := by
  obtain ⟨p, _, hp⟩ := DS.inUse_iff.1 hu
  obtain ⟨d, _, hd⟩ := DS.has_iff.1 hp
  exact (h.f _ _ _ hd).2.2.2
theorem DS.Bas.sm {s : DS} (h : s.Bas) : s.Sm where
  f := fun p d o e => (h.f p d o e).2.2.2
  o := h.o
  len := h.len
  run := fun f x hx => by have := (h.wf f).ok x hx; unfold Rn.fine at this; omega
  rp := fun f x hx => live_mem (h.lv f x hx)
  w := fun f x hx => h.inN (h.w f x hx).1
  wl := fun f => by
    have := nodup_sub ((s.W f).map fun x => some x.o) (ps6.flatMap fun p => ds5.map fun d => s.F p d) (by
      rw [List.nodup_iff_pairwise_ne, List.pairwise_map]
      exact (h.wn f).imp fun hx e => hx.1 (Option.some.inj e)) (fun y hy => by
      obtain ⟨x, hx, rfl⟩ := List.mem_map.1 hy
      obtain ⟨p, hp, hh⟩ := DS.inUse_iff.1 (h.w f x hx).1
      obtain ⟨d, hd, e⟩ := DS.has_iff.1 hh
      exact List.mem_flatMap.2 ⟨p, hp, List.mem_map.2 ⟨d, hd, e⟩⟩)
    have e : (ps6.flatMap fun p => ds5.map fun d => s.F p d).length = 30 := by simp [ps6, ds5]
    rw [e] at this
    simp only [List.length_map] at this
    omega
  q := fun a ha => (h.q a ha).1.sm h
  ql := by have := ones_le h.qn (fun a ha => live_mem (h.q a ha).1.l); omega

/-- Openings by their blocks. -/
def renF (ι : Nat → Nat) (F : Int → Int → Option Nat) : Int → Int → Option Nat := fun p d => (F p d).map ι
def renW (ι : Nat → Nat) (l : List Wl) : List Wl := l.map fun x => ⟨ι x.o, x.k⟩
def renA (ι : Nat → Nat) (a : Ask) : Ask := {a with o := ι a.o}
def renQ (ι : Nat → Nat) (l : List Ask) : List Ask := l.map (renA ι)
theorem renW_len (ι : Nat → Nat) (l : List Wl) : (renW ι l).length = l.length := by simp [renW]
theorem renQ_len (ι : Nat → Nat) (l : List Ask) : (renQ ι l).length = l.length := by simp [renQ]

/-- The Kernel in block kb, its table in tb, the map in mb; g: the guard's word; all its blocks are of P. -/
structure KV (w : World) (kb tb mb : Nat) (g : Int) (P : Nat → Prop) (ι : Nat → Nat) (s : DS) (rv wv : Nat → Value) (qv : Value) : Prop where
  k : w.heap[kb]? = some (.cells #[.int .i32 g, .int .u32 0, .pointer (some ⟨tb, 0, none⟩), rv 0, wv 0, rv 1, wv 1, rv 2, wv 2, qv] 100 (0, 0))
  t : Tab w tb mb s.L
  m : MapAt w mb (renF ι s.F)
  o : ∀ o, o < s.N → OpenAt w (ι o) (s.O o)
  inj : ∀ a b, a < s.N → b < s.N → ι a = ι b → a = b
  r : ∀ i, i < 3 → w.ownsRow 0 129 4 (rv i) (s.R i).length (flat (s.R i))
  wr : ∀ i, i < 3 → w.ownsRow 0 135 2 (wv i) (renW ι (s.W i)).length (flatWl (renW ι (s.W i)))
  q : w.ownsRow 0 137 8 qv (renQ ι s.Q).length (flatQ (renQ ι s.Q))
  pk : P kb ∧ P tb ∧ P mb
  po : ∀ o, o < s.N → P (ι o)
  pr : ∀ i, i < 3 → ∀ b, (rv i).ownBlock = some b → P b
  pw : ∀ i, i < 3 → ∀ b, (wv i).ownBlock = some b → P b
  pq : ∀ b, qv.ownBlock = some b → P b
  sm : s.Sm

section
variable {w w' : World} {kb tb mb : Nat} {g : Int} {P : Nat → Prop} {ι : Nat → Nat} {s : DS} {rv wv : Nat → Value} {qv : Value}
theorem KV.lt (h : KV w kb tb mb g P ι s rv wv qv) : kb < w.heap.size := (Array.getElem?_eq_some_iff.1 h.k).1
theorem KV.ne1 (h : KV w kb tb mb g P ι s rv wv qv) : kb ≠ tb := fun e => by
  have hk := h.k
  have ht := h.t
  unfold Tab at ht
  rw [e, ht] at hk
  cases hk
theorem KV.ne2 (h : KV w kb tb mb g P ι s rv wv qv) : kb ≠ mb := fun e => by
  have hk := h.k
  obtain ⟨es, c, M, hm, _⟩ := h.m
  rw [e, hm] at hk
  cases hk
theorem KV.ne3 (h : KV w kb tb mb g P ι s rv wv qv) : tb ≠ mb := fun e => by
  have ht := h.t
  obtain ⟨es, c, M, hm, _⟩ := h.m
  unfold Tab at ht
  rw [e, hm] at ht
  cases ht
/-- A block of another type is none of the three. -/
theorem KV.far (h : KV w kb tb mb g P ι s rv wv qv) {b : Nat} {cur : Array Value} {t : TypeId} (hb : w.heap[b]? = some (.cells cur t (0, 0))) (h1 : t ≠ 100) (h2 : t ≠ 157) : b ∉ [kb, tb, mb] := by
  have hk := h.k
  have ht := h.t
  obtain ⟨es, c, M, hm, _⟩ := h.m
  unfold Tab at ht
  intro hmem
  simp only [List.mem_cons, List.not_mem_nil, or_false] at hmem
  rcases hmem with rfl | rfl | rfl
  · rw [hk] at hb; cases hb; exact h1 rfl
  · rw [ht] at hb; cases hb; exact h2 rfl
  · rw [hm] at hb; cases hb
/-- What is none of the three stays. -/
structure Keeps (w' : World) (ι : Nat → Nat) (s : DS) (rv wv : Nat → Value) (qv : Value) : Prop where
  o : ∀ o, o < s.N → OpenAt w' (ι o) (s.O o)
  r : ∀ i, i < 3 → w'.ownsRow 0 129 4 (rv i) (s.R i).length (flat (s.R i))
  wr : ∀ i, i < 3 → w'.ownsRow 0 135 2 (wv i) (renW ι (s.W i)).length (flatWl (renW ι (s.W i)))
  q : w'.ownsRow 0 137 8 qv (renQ ι s.Q).length (flatQ (renQ ι s.Q))
theorem own_kp (h : KV w kb tb mb g P ι s rv wv qv) (hk : Kp [kb, tb, mb] w w') {base : Nat} {t : TypeId} {sz : Nat} {v : Value} {n : Nat} {xs : List Value} (ho : w.ownsRow base t sz v n xs) (h1 : t ≠ 100) (h2 : t ≠ 157) : w'.ownsRow base t sz v n xs :=
  own_blk ho fun b e => by
    obtain ⟨cur, hc⟩ := own_tag ho e
    exact hk.block b (ho.lt b e).2 (h.far hc h1 h2)
theorem KV.keeps (h : KV w kb tb mb g P ι s rv wv qv) (hk : Kp [kb, tb, mb] w w') : Keeps w' ι s rv wv qv :=
  ⟨fun o ho => (h.o o ho).of_block (hk.block _ (Array.getElem?_eq_some_iff.1 (h.o o ho)).1 (h.far (h.o o ho) (by decide) (by decide))),
   fun i hi => own_kp h hk (h.r i hi) (by decide) (by decide), fun i hi => own_kp h hk (h.wr i hi) (by decide) (by decide), own_kp h hk h.q (by decide) (by decide)⟩
theorem KV.below (h : KV w kb tb mb g P ι s rv wv qv) (hb : Below w.heap.size w w') : KV w' kb tb mb g P ι s rv wv qv := by
  have hk := h.keeps (Kp.below hb)
  exact ⟨(hb.block kb h.lt).trans h.k, h.t.of_block (hb.block tb h.t.lt), h.m.of_block (hb.block mb h.m.lt), hk.o, h.inj, hk.r, hk.wr, hk.q, h.pk, h.po, h.pr, h.pw, h.pq, h.sm⟩
theorem KV.mono {Q : Nat → Prop} (h : KV w kb tb mb g P ι s rv wv qv) (hq : ∀ b, P b → Q b) : KV w kb tb mb g Q ι s rv wv qv :=
  ⟨h.k, h.t, h.m, h.o, h.inj, h.r, h.wr, h.q, ⟨hq _ h.pk.1, hq _ h.pk.2.1, hq _ h.pk.2.2⟩, fun o ho => hq _ (h.po o ho), fun i hi b e => hq _ (h.pr i hi b e), fun i hi b e => hq _ (h.pw i hi b e), fun b e => hq _ (h.pq b e), h.sm⟩
theorem KV.opn (h : KV w kb tb mb g P ι s rv wv qv) {o : Nat} (ho : o < s.N) : Opn w (ι o) := ⟨_, h.o o ho⟩
theorem KV.opnG (h : KV w kb tb mb g P ι s rv wv qv) (p d : Int) (x : Nat) (e : renF ι s.F p d = some x) : Opn w x := by
  unfold renF at e
  cases ho : s.F p d with
  | none => rw [ho] at e; cases e
  | some o => rw [ho] at e; cases e; exact h.opn (h.sm.f p d o ho)
theorem KV.frz (h : KV w kb tb mb g P ι s rv wv qv) (o : Nat) : w.frozen? ⟨kb, o, none⟩ = false := by simp [World.frozen?, h.k]
theorem KV.c0 (h : KV w kb tb mb g P ι s rv wv qv) : w.cell? ⟨kb, 0, none⟩ = some (.int .i32 g) := by simp [World.cell?, h.k]
theorem KV.c2 (h : KV w kb tb mb g P ι s rv wv qv) : w.cell? ⟨kb, 2, none⟩ = some (.pointer (some ⟨tb, 0, none⟩)) := by simp [World.cell?, h.k]
theorem KV.c9 (h : KV w kb tb mb g P ι s rv wv qv) : w.cell? ⟨kb, 9, none⟩ = some qv := by simp [World.cell?, h.k]
theorem KV.cr (h : KV w kb tb mb g P ι s rv wv qv) (i : Nat) (hi : i < 3) : w.cell? ⟨kb, 3 + i * 2, none⟩ = some (rv i) := by
  obtain rfl | rfl | rfl : i = 0 ∨ i = 1 ∨ i = 2 := by omega
  all_goals simp [World.cell?, h.k]
theorem KV.cw (h : KV w kb tb mb g P ι s rv wv qv) (i : Nat) (hi : i < 3) : w.cell? ⟨kb, 3 + i * 2 + 1, none⟩ = some (wv i) := by
  obtain rfl | rfl | rfl : i = 0 ∨ i = 1 ∨ i = 2 := by omega
  all_goals simp [World.cell?, h.k]

theorem KV.setRuns (h : KV w kb tb mb g P ι s rv wv qv) (i : Nat) (hi : i < 3) {v : Value} {l : List Rn} (hv : w.ownsRow 0 129 4 v l.length (flat l)) (hp : ∀ b, v.ownBlock = some b → P b) (hs : DS.Sm {s with R := updR s.R i l}) :
    KV (w.setCell ⟨kb, 3 + i * 2, none⟩ v) kb tb mb g P ι {s with R := updR s.R i l} (updR rv i v) wv qv := by
  have hkp : Kp [kb, tb, mb] w (w.setCell ⟨kb, 3 + i * 2, none⟩ v) := Kp.setCell (by simp)
  have hk := h.keeps hkp
  have hq := own_kp h hkp hv (by decide) (by decide)
  refine ⟨?_, h.t.of_block (Below.heap_setCell _ _ _ _ h.ne1.symm), h.m.of_block (Below.heap_setCell _ _ _ _ h.ne2.symm), hk.o, h.inj, fun j hj => ?_, hk.wr, hk.q, h.pk, h.po, fun j hj b e => ?_, h.pw, h.pq, hs⟩
  · rw [heap_setCell_at h.k]
    obtain rfl | rfl | rfl : i = 0 ∨ i = 1 ∨ i = 2 := by omega
    all_goals simp [updR]
  · simp only [updR]
    by_cases e : j = i
    · simp only [if_pos e]; exact hq
    · simp only [if_neg e]; exact hk.r j hj
  · simp only [updR] at e
    split at e
    · exact hp b e
    · exact h.pr j hj b e
theorem KV.setWholes (h : KV w kb tb mb g P ι s rv wv qv) (i : Nat) (hi : i < 3) {v : Value} {l : List Wl} (hv : w.ownsRow 0 135 2 v (renW ι l).length (flatWl (renW ι l))) (hp : ∀ b, v.ownBlock = some b → P b) (hs : DS.Sm {s with W := updR s.W i l}) :
    KV (w.setCell ⟨kb, 3 + i * 2 + 1, none⟩ v) kb tb mb g P ι {s with W := updR s.W i l} rv (updR wv i v) qv := by
  have hkp : Kp [kb, tb, mb] w (w.setCell ⟨kb, 3 + i * 2 + 1, none⟩ v) := Kp.setCell (by simp)
  have hk := h.keeps hkp
  have hq := own_kp h hkp hv (by decide) (by decide)
  refine ⟨?_, h.t.of_block (Below.heap_setCell _ _ _ _ h.ne1.symm), h.m.of_block (Below.heap_setCell _ _ _ _ h.ne2.symm), hk.o, h.inj, hk.r, fun j hj => ?_, hk.q, h.pk, h.po, h.pr, fun j hj b e => ?_, h.pq, hs⟩
  · rw [heap_setCell_at h.k]
    obtain rfl | rfl | rfl : i = 0 ∨ i = 1 ∨ i = 2 := by omega
    all_goals simp [updR]
  · simp only [updR]
    by_cases e : j = i
    · simp only [if_pos e]; exact hq
    · simp only [if_neg e]; exact hk.wr j hj
  · simp only [updR] at e
    split at e
    · exact hp b e
    · exact h.pw j hj b e
theorem KV.setQueue (h : KV w kb tb mb g P ι s rv wv qv) {v : Value} {l : List Ask} (hv : w.ownsRow 0 137 8 v (renQ ι l).length (flatQ (renQ ι l))) (hp : ∀ b, v.ownBlock = some b → P b) (hs : DS.Sm {s with Q := l}) :
    KV (w.setCell ⟨kb, 9, none⟩ v) kb tb mb g P ι {s with Q := l} rv wv v := by
  have hkp : Kp [kb, tb, mb] w (w.setCell ⟨kb, 9, none⟩ v) := Kp.setCell (by simp)
  have hk := h.keeps hkp
  exact ⟨by rw [heap_setCell_at h.k]; rfl, h.t.of_block (Below.heap_setCell _ _ _ _ h.ne1.symm), h.m.of_block (Below.heap_setCell _ _ _ _ h.ne2.symm), hk.o, h.inj, hk.r, hk.wr, own_kp h hkp hv (by decide) (by decide), h.pk, h.po, h.pr, h.pw, hp, hs⟩
theorem KV.setGuard (h : KV w kb tb mb g P ι s rv wv qv) (g' : Int) : KV (w.setCell ⟨kb, 0, none⟩ (.int .i32 g')) kb tb mb g' P ι s rv wv qv := by
  have hkp : Kp [kb, tb, mb] w (w.setCell ⟨kb, 0, none⟩ (.int .i32 g')) := Kp.setCell (by simp)
  have hk := h.keeps hkp
  exact ⟨by rw [heap_setCell_at h.k]; rfl, h.t.of_block (Below.heap_setCell _ _ _ _ h.ne1.symm), h.m.of_block (Below.heap_setCell _ _ _ _ h.ne2.symm), hk.o, h.inj, hk.r, hk.wr, hk.q, h.pk, h.po, h.pr, h.pw, h.pq, h.sm⟩
/-- The table turned. -/
theorem KV.table (h : KV w kb tb mb g P ι s rv wv qv) (hkp : Kp [tb, mb] w w') {L' : Nat → Bool} {F' : Int → Int → Option Nat} (ht : Tab w' tb mb L') (hm : MapAt w' mb (renF ι F')) (hs : DS.Sm {s with L := L', F := F'}) :
    KV w' kb tb mb g P ι {s with L := L', F := F'} rv wv qv := by
  have hk := h.keeps (hkp.mono (cs := [kb, tb, mb]) (by simp))
  exact ⟨(hkp.block kb h.lt (by simp [h.ne1, h.ne2])).trans h.k, ht, hm, hk.o, h.inj, hk.r, hk.wr, hk.q, h.pk, h.po, h.pr, h.pw, h.pq, hs⟩
/-- Blocks of a type that is none of the Kernel's may turn. -/
theorem KV.but (h : KV w kb tb mb g P ι s rv wv qv) {t2 : TypeId} (n1 : t2 ≠ 100) (n2 : t2 ≠ 157) (n3 : t2 ≠ 143) (n4 : t2 ≠ 129) (n5 : t2 ≠ 135) (n6 : t2 ≠ 137)
    (hold : ∀ b, b < w.heap.size → (∀ cur fr, w.heap[b]? ≠ some (.cells cur t2 fr)) → w'.heap[b]? = w.heap[b]?) : KV w' kb tb mb g P ι s rv wv qv := by
  have key : ∀ {b : Nat} {cur : Array Value} {t : TypeId}, w.heap[b]? = some (.cells cur t (0, 0)) → t2 ≠ t → w'.heap[b]? = w.heap[b]? := fun {b cur t} hb hne =>
    hold b (Array.getElem?_eq_some_iff.1 hb).1 fun c fr e => by rw [hb] at e; cases e; exact hne rfl
  have row : ∀ {base : Nat} {t : TypeId} {sz : Nat} {v : Value} {n : Nat} {xs : List Value}, w.ownsRow base t sz v n xs → t2 ≠ t → w'.ownsRow base t sz v n xs := fun ho hne => own_blk ho fun b e => by
    obtain ⟨cur, hc⟩ := own_tag ho e
    exact key hc hne
  have hm : w'.heap[mb]? = w.heap[mb]? := hold mb h.m.lt fun c fr e => by obtain ⟨es, ck, M, hm, _⟩ := h.m; rw [hm] at e; cases e
  exact ⟨(key h.k n1).trans h.k, h.t.of_block (key h.t n2), h.m.of_block hm, fun o ho => (h.o o ho).of_block (key (h.o o ho) n3), h.inj, fun i hi => row (h.r i hi) n4, fun i hi => row (h.wr i hi) n5, row h.q n6, h.pk, h.po, h.pr, h.pw, h.pq, h.sm⟩
theorem own_but {b2 : Nat} {t2 : TypeId} {z2 : Nat} {v : Value} {m : Nat} {ys : List Value} (h2 : w.ownsRow b2 t2 z2 v m ys) (hold : ∀ b, b < w.heap.size → v.ownBlock ≠ some b → w'.heap[b]? = w.heap[b]?) : ∀ b, b < w.heap.size → (∀ cur fr, w.heap[b]? ≠ some (.cells cur t2 fr)) → w'.heap[b]? = w.heap[b]? :=
  fun b hb hn => hold b hb fun e => by
    obtain ⟨cur, hc⟩ := own_tag h2 e
    exact hn _ _ hc
end
end Go.Proofs.YtaicdjhblbobbaaGreat
