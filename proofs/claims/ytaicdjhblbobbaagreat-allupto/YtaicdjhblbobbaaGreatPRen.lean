/- Openings by their blocks: what the program tells of blocks is what the model tells of openings. -/
import Derived.Test.YtaicdjhblbobbaaGreatPQueueE
import Derived.BigQuiet
import Derived.Deep.QuietTactic
import Derived.Test.YtaicdjhblbobbaaGreatPPureB
import Derived.Deep.RegionWith
import Derived.Deep.RegionHeld3
namespace Go.Proofs.YtaicdjhblbobbaaGreat
open Go.RowKit Go.Lib

/-- ι gives different openings different blocks. -/
structure DS.Rn (s : DS) (ι : Nat → Nat) : Prop where
  inj : ∀ a b, a < s.N → b < s.N → ι a = ι b → a = b
  sm : s.Sm
theorem KV.rn {w : World} {kb tb mb : Nat} {g : Int} {P : Nat → Prop} {ι : Nat → Nat} {s : DS} {rv wv : Nat → Value} {qv : Value} (h : KV w kb tb mb g P ι s rv wv qv) : s.Rn ι := ⟨h.inj, h.sm⟩
section
variable {s : DS} {ι : Nat → Nat}
theorem DS.Rn.iff (h : s.Rn ι) {a b : Nat} (ha : a < s.N) (hb : b < s.N) : ι a = ι b ↔ a = b := ⟨h.inj a b ha hb, fun e => by rw [e]⟩
theorem DS.Rn.fd (h : s.Rn ι) {o : Nat} (ho : o < s.N) (p d : Int) : renF ι s.F p d = some (ι o) ↔ s.F p d = some o := by
  unfold renF
  cases e : s.F p d with
  | none => simp
  | some o' =>
    simp only [Option.map_some, Option.some.injEq]
    exact h.iff (h.sm.f p d o' e) ho
theorem DS.Rn.has (h : s.Rn ι) {o : Nat} (ho : o < s.N) (p : Int) : hasG (renF ι s.F) (ι o) p = s.has o p := by
  unfold hasG DS.has
  congr 1
  funext d
  exact decide_eq_decide.2 (h.fd ho p d)
theorem DS.Rn.users (h : s.Rn ι) {o : Nat} (ho : o < s.N) : usersG (renF ι s.F) (ι o) = s.users o := by
  unfold usersG DS.users
  congr 1
  funext p
  exact h.has ho p
theorem DS.Rn.inUse (h : s.Rn ι) {o : Nat} (ho : o < s.N) : ps6.any (hasG (renF ι s.F) (ι o)) = s.inUse o := by
  unfold DS.inUse
  congr 1
  funext p
  exact h.has ho p
theorem renA_rn (ι : Nat → Nat) (a : Ask) : (renA ι a).rn = a.rn := rfl
theorem renA_wk (ι : Nat → Nat) (a : Ask) : (renA ι a).wk = a.wk := rfl
theorem renA_p (ι : Nat → Nat) (a : Ask) : (renA ι a).p = a.p := rfl
theorem renA_file (ι : Nat → Nat) (a : Ask) : (renA ι a).file = a.file := rfl
theorem renA_ow (ι : Nat → Nat) (a : Ask) : (renA ι a).ow = a.ow.map ι := by
  unfold Ask.ow renA
  cases a.whole <;> rfl
theorem ow_lt {a : Ask} (h : s.AskSm a) {o : Nat} (e : a.ow = some o) : o < s.N := by
  unfold Ask.ow at e
  split at e
  · rename_i hw; cases e; exact h.o hw
  · cases e
theorem DS.Rn.bitesW (h : s.Rn ι) {a : Ask} (ha : s.AskSm a) {o : Nat} (ho : o < s.N) (k k' : Int) : bitesW (some (ι o)) k ((renA ι a).ow) k' = bitesW (some o) k a.ow k' := by
  unfold Go.Proofs.YtaicdjhblbobbaaGreat.bitesW
  congr 1
  rw [renA_ow]
  refine decide_eq_decide.2 (not_congr ?_)
  cases e : a.ow with
  | none => simp
  | some o' => simp only [Option.map_some, Option.some.injEq]; exact h.iff ho (ow_lt ha e)
theorem DS.Rn.wb (h : s.Rn ι) {a : Ask} (ha : s.AskSm a) (f : Nat) : wbP (renW ι (s.W f)) (renA ι a).ow a.wk = (((s.W f).filter fun w => Go.Proofs.YtaicdjhblbobbaaGreat.bitesW (some w.o) w.k a.ow a.wk).map fun w => ι w.o) := by
  unfold wbP renW
  rw [List.filter_map, List.map_map]
  have e : (s.W f).filter ((fun x => Go.Proofs.YtaicdjhblbobbaaGreat.bitesW (some x.o) x.k (renA ι a).ow a.wk) ∘ fun x => (⟨ι x.o, x.k⟩ : Wl)) = (s.W f).filter fun w => Go.Proofs.YtaicdjhblbobbaaGreat.bitesW (some w.o) w.k a.ow a.wk :=
    List.filter_congr fun x hx => h.bitesW ha (h.sm.w f x hx) x.k a.wk
  rw [e]
  rfl
theorem DS.Rn.bitesQ (h : s.Rn ι) {a b : Ask} (ha : s.AskSm a) (hb : s.AskSm b) : bitesQ (renA ι b) (renA ι a) = bitesQ b a := by
  unfold Go.Proofs.YtaicdjhblbobbaaGreat.bitesQ
  rw [renA_rn, renA_rn, renA_wk, renA_wk, renA_file, renA_file]
  congr 2
  unfold Go.Proofs.YtaicdjhblbobbaaGreat.bitesW
  congr 1
  rw [renA_ow, renA_ow]
  refine decide_eq_decide.2 (not_congr ?_)
  cases e : a.ow with
  | none => cases e' : b.ow <;> simp
  | some o' =>
    cases e' : b.ow with
    | none => simp
    | some o => simp only [Option.map_some, Option.some.injEq]; exact h.iff (ow_lt hb e') (ow_lt ha e)
theorem DS.Rn.qb (h : s.Rn ι) {a : Ask} (ha : s.AskSm a) {l : List Ask} (hl : ∀ b, b ∈ l → s.AskSm b) : qbP (renQ ι l) (renA ι a) = ((l.filter fun b => Go.Proofs.YtaicdjhblbobbaaGreat.bitesQ b a).map (·.p)) := by
  unfold qbP renQ
  rw [List.filter_map, List.map_map]
  have e : l.filter ((fun b => Go.Proofs.YtaicdjhblbobbaaGreat.bitesQ b (renA ι a)) ∘ renA ι) = l.filter fun b => Go.Proofs.YtaicdjhblbobbaaGreat.bitesQ b a :=
    List.filter_congr fun x hx => h.bitesQ ha (hl x hx)
  rw [e]
  rfl
theorem DS.Rn.mem (h : s.Rn ι) {f : Nat} {o : Nat} (ho : o < s.N) {k : Int} : (⟨ι o, k⟩ : Wl) ∈ renW ι (s.W f) ↔ (⟨o, k⟩ : Wl) ∈ s.W f := by
  unfold renW
  rw [List.mem_map]
  constructor
  · rintro ⟨x, hx, e⟩
    injection e with e1 e2
    have := (h.iff (h.sm.w f x hx) ho).1 e1
    cases x
    simp only at this e2
    subst this e2
    exact hx
  · exact fun hx => ⟨_, hx, rfl⟩
theorem DS.Rn.setW (h : s.Rn ι) {f : Nat} {o : Nat} (ho : o < s.N) (k : Int) : setW (renW ι (s.W f)) (ι o) k = renW ι (setW (s.W f) o k) := by
  unfold Go.Proofs.YtaicdjhblbobbaaGreat.setW
  by_cases hm : (⟨o, k⟩ : Wl) ∈ s.W f
  · rw [if_pos ((h.mem ho).2 hm), if_pos hm]
  · rw [if_neg (fun e => hm ((h.mem ho).1 e)), if_neg hm]
    unfold renW
    rw [List.map_append, List.filter_map]
    have e : (s.W f).filter ((fun w : Wl => decide (w.o ≠ ι o)) ∘ fun x => (⟨ι x.o, x.k⟩ : Wl)) = (s.W f).filter fun w => decide (w.o ≠ o) :=
      List.filter_congr fun x hx => decide_eq_decide.2 (not_congr (h.iff (h.sm.w f x hx) ho))
    rw [e]
    congr 1
    split <;> rfl
theorem DS.Rn.keep (h : s.Rn ι) (f : Nat) : ((renW ι (s.W f)).filter fun x => ps6.any (hasG (renF ι s.F) x.o)) = renW ι ((s.W f).filter fun w => s.inUse w.o) := by
  unfold renW
  rw [List.filter_map]
  congr 1
  exact List.filter_congr fun x hx => h.inUse (h.sm.w f x hx)
theorem renQ_get {l : List Ask} {i : Nat} {a : Ask} (h : l[i]? = some a) : (renQ ι l)[i]? = some (renA ι a) := by simp [renQ, h]
theorem renQ_take (l : List Ask) (i : Nat) : renQ ι (l.take i) = (renQ ι l).take i := by simp [renQ]
theorem renQ_map_p (l : List Ask) : (renQ ι l).map (·.p) = l.map (·.p) := by simp [renQ, renA]
theorem renQ_filter (l : List Ask) (p : Int) : ((renQ ι l).filter fun a => decide (a.p ≠ p)) = renQ ι (l.filter fun a => decide (a.p ≠ p)) := by
  unfold renQ
  rw [List.filter_map]
  rfl
theorem renF_updF (F : Int → Int → Option Nat) (p d : Int) (o : Option Nat) : renF ι (updF F p d o) = updF (renF ι F) p d (o.map ι) := by
  funext q e
  unfold renF updF
  split <;> rfl
theorem renF_copyF (F : Int → Int → Option Nat) (p c : Int) (k : Nat) : renF ι (copyF F p c k) = copyF (renF ι F) p c k := by
  funext q e
  unfold renF copyF
  split <;> rfl
end
end Go.Proofs.YtaicdjhblbobbaaGreat

/- Contract of wholes.List.Set: a lock that came, or went. -/
namespace Go.Proofs.YtaicdjhblbobbaaGreat
open Go.RowKit Go.Lib

def idxW (l : List Wl) (o : Option Nat) (k : Int) : Int := idxF l fun x => decide (o = some x.o) && decide (k = x.k)
set_option maxHeartbeats 4000000 in
set_option maxRecDepth 100000 in
theorem wIndex_any {v : Value} {l : List Wl} (o : Option Nat) (k : Int) {w : World} (hv : w.ownsRow 0 135 2 v l.length (flatWl l)) (hl : l.length < 90000) (hO : ∀ x, x ∈ l → Opn w x.o) (ho : ∀ b, o = some b → Opn w b) :
    Calls Tryz.prog 193 #[v, .agg #[ptrV o, .int .i64 k]] w fun e w' => e = .returned (.int .i64 (idxW l o k)) ∧ Below w.heap.size w w' := by
  obtain ⟨a, c, rfl⟩ := own_form hv
  have HV := Hid.mk hv
  have hb : Below w.heap.size w (w.alloc (.cells #[ptrV o, .int .i64 k] 135)) := (Below.refl _ _).alloc (Nat.le_refl _) _
  have HQ := Hid.mk (fun (W : World) (hW : Below w.heap.size w W) (x : Wl) (hx : x ∈ l) => run_eqlPtrIn (w := W) (o := o) (o' := some x.o) (fun b e => (ho b e).below hW) (fun b e => by cases e; exact (hO x hx).below hW) 9998)
  have HB := Hid.mk hb
  clear hv hO ho hb
  have HP := Hid.mk (show ptrV o = .pointer (o.map fun b => ⟨b, 0, none⟩) from rfl)
  generalize hA : o.map (fun b => (⟨b, 0, none⟩ : Addr)) = A at HP
  rw [HP.out] at HQ HB ⊢
  clear hA HP
  go_enter Tryz.func193, Tryz.ntmps193
  go_wp2
  go_loopw [5, 8] (fun _ s8 wr => ∃ n : Nat, s8 = .int .i64 n ∧ n ≤ l.length ∧ Hid (∀ (j : Nat) (y : Wl), j < n → l[j]? = some y → (decide (o = some y.o) && decide (k = y.k)) = false) ∧ Hid (Below (w.heap.size + 1) (w.alloc (.cells #[.pointer A, .int .i64 k] 135)) wr)) (fun _ s8 _ => l.length - (intOf s8).toNat)
  case atStart => exact ⟨0, rfl, Nat.zero_le _, fun j y hj => absurd hj (Nat.not_lt_zero _), Below.refl _ _⟩
  case round =>
    obtain ⟨n, rfl, hn, HF, HBr⟩ := hrel
    have hb1 : Below w.heap.size w wr := HB.out.trans (HBr.out.mono (Nat.le_succ _))
    have hsz : w.heap.size + 1 ≤ wr.heap.size := by have := HBr.out.size; simpa using this
    by_cases hlt : n < l.length
    · obtain ⟨x, hx⟩ : ∃ x, l[n]? = some x := ⟨_, List.getElem?_eq_getElem hlt⟩
      obtain ⟨g, rfl, _, hg, _, hcell⟩ := own_some HV.out (by omega)
      obtain ⟨f0, f1⟩ := flatWl_cell hx
      have hlt' : (n : Int) < (l.length : Int) := by omega
      have c0 : wr.cell? ⟨g, n * 2, none⟩ = some (.pointer (some ⟨x.o, 0, none⟩)) := (hb1.cell (p := ⟨g, n * 2, none⟩) hg).trans ((hcell _ (by omega)).trans f0)
      have c1 : wr.cell? ⟨g, n * 2 + 1, none⟩ = some (.int .i64 x.k) := (hb1.cell (p := ⟨g, n * 2 + 1, none⟩) hg).trans ((hcell _ (by omega)).trans f1)
      have d0 : wr.cell? ⟨w.heap.size, 0, none⟩ = some (.pointer A) := (HBr.out.cell (p := ⟨w.heap.size, 0, none⟩) (Nat.lt_succ_self _)).trans (by simp)
      have d1 : wr.cell? ⟨w.heap.size, 1, none⟩ = some (.int .i64 k) := (HBr.out.cell (p := ⟨w.heap.size, 1, none⟩) (Nat.lt_succ_self _)).trans (by simp)
      have hq := HQ.out wr.drew hb1.drew x (List.mem_of_getElem? hx)
      have HX := Hid.mk hx
      have HB1 := Hid.mk hb1
      have hgw : g < wr.heap.size := by omega
      have hww : w.heap.size < wr.heap.size := by omega
      clear hcell f0 f1 hx hb1
      simp only [ptrV, Option.map_some] at hq
      by_cases h1 : o = some x.o
      · by_cases h2 : k = x.k
        · have HT : Hid ((decide (o = some x.o) && decide (k = x.k)) = true) := by show _ = true; simp [h1, h2]
          rw [decide_eq_true h1] at hq
          rw [← h2] at c1
          clear h1 h2
          go_wp2
          go_region
          go_wp2
          go_ret
          refine ⟨ret_i64 ?_, HB1.out.drew⟩
          unfold idxW
          rw [idxF_hit HX.out HT.out HF.out]
        · have HT : Hid ((decide (o = some x.o) && decide (k = x.k)) = false) := by show _ = false; simp [h2]
          rw [decide_eq_true h1] at hq
          clear h1
          go_wp2
          go_region
          go_wp2
          go_roundw
          case rel =>
            refine ⟨n + 1, by go_num, by omega, fun j y hj hy => ?_, HBr.out.drew⟩
            by_cases e : j = n
            · subst e
              have := HX.out.symm.trans hy
              cases this
              exact HT.out
            · exact HF.out j y (by omega) hy
          case measure => simp [intOf]; omega
      · have HT : Hid ((decide (o = some x.o) && decide (k = x.k)) = false) := by show _ = false; simp [h1]
        rw [decide_eq_false h1] at hq
        clear h1
        go_wp2
        go_region
        go_wp2
        go_roundw
        case rel =>
          refine ⟨n + 1, by go_num, by omega, fun j y hj hy => ?_, HBr.out.drew⟩
          by_cases e : j = n
          · subst e
            have := HX.out.symm.trans hy
            cases this
            exact HT.out
          · exact HF.out j y (by omega) hy
        case measure => simp [intOf]; omega
    · obtain rfl : n = l.length := by omega
      have HB1 := Hid.mk hb1
      clear hb1
      go_wp2
      go_ret
      refine ⟨ret_i64 ?_, HB1.out⟩
      unfold idxW
      rw [idxF_miss (fun j y hy => HF.out j y (List.getElem?_eq_some_iff.1 hy).1 hy)]

set_option maxHeartbeats 2000000 in
set_option maxRecDepth 100000 in
theorem wContains_any {v : Value} {l : List Wl} (o : Option Nat) (k : Int) {w : World} (hv : w.ownsRow 0 135 2 v l.length (flatWl l)) (hl : l.length < 90000) (hO : ∀ x, x ∈ l → Opn w x.o) (ho : ∀ b, o = some b → Opn w b) :
    Calls Tryz.prog 175 #[v, .agg #[ptrV o, .int .i64 k]] w fun e w' => e = .returned (.bool (l.any fun x => decide (o = some x.o) && decide (k = x.k))) ∧ Below w.heap.size w w' := by
  have hb : Below w.heap.size w (w.alloc (.cells #[ptrV o, .int .i64 k] 135)) := (Below.refl _ _).alloc (Nat.le_refl _) _
  have HC := Hid.mk (wIndex_any o k (own_below hv hb) hl (fun x hx => (hO x hx).below hb) (fun b e => (ho b e).below hb))
  have HB := Hid.mk hb
  have HE := Hid.mk (idxF_any l (fun x => decide (o = some x.o) && decide (k = x.k)))
  rw [← HE.out]
  change Hid (Calls _ _ _ _ fun e w' => e = .returned (.int .i64 (idxF l fun x => decide (o = some x.o) && decide (k = x.k))) ∧ _) at HC
  generalize (idxF l fun x => decide (o = some x.o) && decide (k = x.k)) = I at *
  clear hv hO ho hb
  unfold ptrV at *
  generalize o.map (fun b => (⟨b, 0, none⟩ : Addr)) = A at *
  go_enter Tryz.func175, Tryz.ntmps175
  go_wp2_with (go_at_call 193; refine HC.out.mono ?_; rintro e w1 ⟨rfl, hb1⟩; have HB1 := Hid.mk hb1; clear hb1)
  go_ret
  exact ⟨rfl, HB.out.trans (HB1.out.mono (by simp))⟩

set_option maxHeartbeats 1000000 in
set_option maxRecDepth 100000 in
theorem wSet1_any (x o B : Nat) (W : World) (hc : W.cell? ⟨B, 0, none⟩ = some (.pointer (some ⟨o, 0, none⟩))) (hx : Opn W x) (ho : Opn W o) :
    Calls Tryz.prog 176 (#[] ++ #[.pointer (some ⟨x, 0, none⟩)] ++ #[.pointer (some ⟨B, 0, none⟩)]) W fun e w' => e = .returned (.bool (decide (x ≠ o))) ∧ Below W.heap.size W w' := by
  have hq := run_neq_opn (w := W) (o := some x) (o' := some o) (fun b e => by cases e; exact hx) (fun b e => by cases e; exact ho)
  simp only [ptrV, Option.map_some] at hq
  have HE : Hid (decide (some x ≠ some o) = decide (x ≠ o)) := decide_eq_decide.2 (not_congr (by simp))
  rw [HE.out] at hq
  generalize decide (x ≠ o) = d at *
  clear hx ho HE
  go_enter Tryz.func176, Tryz.ntmps176
  go_wp2
  go_ret
  exact ⟨rfl, Below.refl _ _⟩

theorem any_lock (l : List Wl) (o : Nat) (k : Int) : (l.any fun x => decide (some o = some x.o) && decide (k = x.k)) = decide ((⟨o, k⟩ : Wl) ∈ l) := by
  rw [Bool.eq_iff_iff, List.any_eq_true, decide_eq_true_eq]
  constructor
  · rintro ⟨x, hx, h⟩
    simp only [Option.some.injEq, Bool.and_eq_true, decide_eq_true_eq] at h
    obtain ⟨h1, h2⟩ := h
    cases x
    simp only at h1 h2
    subst h1 h2
    exact hx
  · exact fun h => ⟨_, h, by simp⟩

set_option maxHeartbeats 4000000 in
set_option maxRecDepth 100000 in
theorem wSet_any {v : Value} {l : List Wl} (o : Nat) (k : Int) {w : World} (hv : w.ownsRow 0 135 2 v l.length (flatWl l)) (hl : l.length < 80000) (hO : ∀ x, x ∈ l → Opn w x.o) (ho : Opn w o) :
    Calls Tryz.prog 149 #[v, .agg #[.pointer (some ⟨o, 0, none⟩), .int .i64 k]] w fun e w' => ∃ v', e = .returned v' ∧ w'.ownsRow 0 135 2 v' (setW l o k).length (flatWl (setW l o k)) ∧ (∀ b, v'.ownBlock = some b → v.ownBlock = some b ∨ w.heap.size ≤ b) ∧ Below w.heap.size w w' := by
  have hb : Below w.heap.size w (w.alloc (.cells #[.pointer (some ⟨o, 0, none⟩), .int .i64 k] 135)) := (Below.refl _ _).alloc (Nat.le_refl _) _
  have HC := Hid.mk (wContains_any (some o) k (own_below hv hb) (by omega) (fun x hx => (hO x hx).below hb) (fun b e => by cases e; exact ho.below hb))
  rw [any_lock] at HC
  simp only [ptrV, Option.map_some] at HC
  have HB := Hid.mk hb
  have HV := Hid.mk hv
  have HO := Hid.mk hO
  have Ho := Hid.mk ho
  have HK := Hid.mk (fun (W : World) (hW : Below (w.heap.size + 1) (w.alloc (.cells #[.pointer (some ⟨o, 0, none⟩), .int .i64 k] 135)) W) =>
    have hWw : Below w.heap.size w W := hb.trans (hW.mono (Nat.le_succ _))
    Keep_any (v := v) (l := l) (fun x => decide (x ≠ o)) (w := W) 176 #[] #[.pointer (some ⟨w.heap.size, 0, none⟩)] (by intro args w; simp [go_sem]) (own_below hv hWw) (by omega)
      (fun W2 x hx hW2 => by
        have hz := hW.size
        simp at hz
        exact wSet1_any x.o o w.heap.size W2 ((hW2.cell (p := ⟨w.heap.size, 0, none⟩) (by show w.heap.size < W.heap.size; omega)).trans ((hW.cell (p := ⟨w.heap.size, 0, none⟩) (Nat.lt_succ_self _)).trans (by simp))) (((hO x hx).below hWw).below hW2) ((ho.below hWw).below hW2)))
  by_cases hm : (⟨o, k⟩ : Wl) ∈ l
  · have HM := Hid.mk hm
    have hd : decide ((⟨o, k⟩ : Wl) ∈ l) = true := by simpa using hm
    rw [hd] at HC
    clear hm hd hb hv hO ho HK
    go_enter Tryz.func149, Tryz.ntmps149
    go_wp2_with (go_at_call 175; refine HC.out.mono ?_; rintro e w1 ⟨rfl, hb1⟩; have HB1 := Hid.mk hb1; clear hb1)
    go_ret
    have hbw := HB.out.trans (HB1.out.mono (by simp))
    refine ⟨_, rfl, ?_, fun b e => Or.inl e, hbw⟩
    unfold setW
    rw [if_pos HM.out]
    exact own_below HV.out hbw
  · have HM := Hid.mk hm
    have hd : decide ((⟨o, k⟩ : Wl) ∈ l) = false := by simpa using hm
    rw [hd] at HC
    clear hm hd hb hv hO ho
    have hln : (l.filter fun x => decide (x.o ≠ o)).length ≤ l.length := List.length_filter_le _ _
    by_cases hk : k = 0
    · have HZ := Hid.mk hk
      have hkb : (k == 0) = true := by simpa using hk
      clear hk
      go_enter Tryz.func149, Tryz.ntmps149
      go_wp2_with (first
        | (go_at_call 175; refine HC.out.mono ?_; rintro e w1 ⟨rfl, hb1⟩; have hz1 := hb1.size; simp at hz1; have e1 : w1.cell? ⟨w.heap.size, 1, none⟩ = some (.int .i64 k) := ((bcells hb1).1 _ _ (by simp)).trans (by simp); have HB1 := Hid.mk hb1; clear hb1)
        | (go_at_call 127; refine (HK.out _ (HB1.out.mono (by simp))).mono ?_; rintro e w2 ⟨v2, rfl, ho2, hb2⟩; have hz2 := hb2.size; have e2 : w2.cell? ⟨w.heap.size, 1, none⟩ = some (.int .i64 k) := ((bcells hb2).1 _ _ (by omega)).trans e1; have HO2 := Hid.mk ho2; have HB2 := Hid.mk hb2; clear ho2 hb2))
      go_ret
      refine ⟨_, rfl, ?_, fun b e => Or.inr ?_, (HB.out.trans (HB1.out.mono (by simp))).trans (HB2.out.mono (by omega))⟩
      · unfold setW
        rw [if_neg HM.out, if_pos HZ.out, List.append_nil]
        exact own_mono HO2.out (Nat.zero_le _)
      · have := (HO2.out.lt b e).1
        omega
    · have HZ := Hid.mk hk
      have hkb : (k == 0) = false := by simpa using hk
      clear hk
      go_enter Tryz.func149, Tryz.ntmps149
      go_wp2_with (first
        | (go_at_call 175; refine HC.out.mono ?_; rintro e w1 ⟨rfl, hb1⟩; have hz1 := hb1.size; simp at hz1; have e0 : w1.cell? ⟨w.heap.size, 0, none⟩ = some (.pointer (some ⟨o, 0, none⟩)) := ((bcells hb1).1 _ _ (by simp)).trans (by simp); have e1 : w1.cell? ⟨w.heap.size, 1, none⟩ = some (.int .i64 k) := ((bcells hb1).1 _ _ (by simp)).trans (by simp); have HB1 := Hid.mk hb1; clear hb1)
        | (go_at_call 127; refine (HK.out _ (HB1.out.mono (by simp))).mono ?_; rintro e w2 ⟨v2, rfl, ho2, hb2⟩; have hz2 := hb2.size; have d0 : w2.cell? ⟨w.heap.size, 0, none⟩ = some (.pointer (some ⟨o, 0, none⟩)) := ((bcells hb2).1 _ _ (by omega)).trans e0; have d1 : w2.cell? ⟨w.heap.size, 1, none⟩ = some (.int .i64 k) := ((bcells hb2).1 _ _ (by omega)).trans e1; have HO2 := Hid.mk ho2; have HB2 := Hid.mk hb2; clear ho2 hb2)
        | (at_builtin; refine wpList_snoc rfl _ _ _ rfl Tryz.underlying93 Tryz.infoWlock rfl (by decide) (by decide) rfl HO2.out (by omega) (by omega) (cs := #[.pointer (some ⟨o, 0, none⟩), .int .i64 k]) rfl (by simp) rfl (by simp [Value.oneCell']) ?_; intro v3 w3 ho3 hb3 hz3 hold3; have HO3 := Hid.mk ho3; have HB3 := Hid.mk hb3; clear ho3 hb3 hold3))
      go_ret
      refine ⟨_, rfl, ?_, fun b e => Or.inr ?_, ((HB.out.trans (HB1.out.mono (by simp))).trans (HB2.out.mono (by omega))).trans (HB3.out.mono (by omega))⟩
      · unfold setW
        rw [if_neg HM.out, if_neg HZ.out, List.length_append, flatWl_app]
        exact own_mono HO3.out (Nat.zero_le _)
      · have := (HO3.out.lt b e).1
        omega
end Go.Proofs.YtaicdjhblbobbaaGreat

/- Contract of the Kernel's ways: what is in the way of a lock. -/
namespace Go.Proofs.YtaicdjhblbobbaaGreat
open Go.RowKit Go.Lib

theorem Tryz.infoInts : (Tryz.prog.info? 25).map (fun i => (i.zero, i.size, i.bytes)) = some (some (.slice none 0 0), 1, 24) := by kernel_rfl
/-- A list of lists that is being made, above base. -/
structure WaysB (base : Nat) (w : World) (u : Value) (L : List (List Int)) (us : List Value) : Prop where
  len : us.length = L.length
  own : w.ownsRow base 25 1 u L.length us
  each : ∀ (j : Nat) c t, L[j]? = some c → us[j]? = some t → w.ownsRow base 3 1 t c.length (ints c)
theorem WaysB.nil (base : Nat) (w : World) : WaysB base w (.slice none 0 0) [] [] := ⟨rfl, World.ownsRow_nil _ _ _ _, fun j c t h => by simp at h⟩
theorem WaysB.at' {base : Nat} {w : World} {u : Value} {L : List (List Int)} {us : List Value} (h : WaysB base w u L us) : WaysAt w u L us :=
  ⟨h.len, own_mono h.own (Nat.zero_le _), fun j c t h1 h2 => own_mono (h.each j c t h1 h2) (Nat.zero_le _)⟩
theorem WaysB.below {base : Nat} {w w' : World} {u : Value} {L : List (List Int)} {us : List Value} (h : WaysB base w u L us) (hb : Below w.heap.size w w') : WaysB base w' u L us :=
  ⟨h.len, own_below h.own hb, fun j c t h1 h2 => own_below (h.each j c t h1 h2) hb⟩
theorem WaysB.snoc {base : Nat} {w w' : World} {u u' : Value} {L : List (List Int)} {us : List Value} (h : WaysB base w u L us) {c : List Int} {t : Value} (ht : w.ownsRow base 3 1 t c.length (ints c))
    (ho : w'.ownsRow base 25 1 u' (L.length + 1) (us ++ [t])) (hold : ∀ b, b < w.heap.size → u.ownBlock ≠ some b → w'.heap[b]? = w.heap[b]?) : WaysB base w' u' (L ++ [c]) (us ++ [t]) := by
  have key : ∀ {t : Value} {c : List Int}, w.ownsRow base 3 1 t c.length (ints c) → w'.ownsRow base 3 1 t c.length (ints c) := fun {t c} hx =>
    own_blk hx fun b e => hold b (hx.lt b e).2 (fun e2 => by
      obtain ⟨c1, h1⟩ := own_tag hx e
      obtain ⟨c2, h2⟩ := own_tag h.own e2
      rw [h1] at h2
      cases h2)
  refine ⟨by simp [h.len], by simpa using ho, fun j d x h1 h2 => ?_⟩
  by_cases hj : j < L.length
  · rw [List.getElem?_append_left hj] at h1
    rw [List.getElem?_append_left (by rw [h.len]; exact hj)] at h2
    exact key (h.each j d x h1 h2)
  · have hjl : j = L.length := by
      have := (List.getElem?_eq_some_iff.1 h1).1
      simp at this
      omega
    subst hjl
    simp only [List.getElem?_concat_length, Option.some.injEq] at h1
    rw [← h.len] at h2
    simp only [List.getElem?_concat_length, Option.some.injEq] at h2
    subst h1 h2
    exact key ht

/-- The place of a file's locks in the Kernel. -/
theorem KV.pair {w : World} {kb tb mb : Nat} {g : Int} {P : Nat → Prop} {ι : Nat → Nat} {s : DS} {rv wv : Nat → Value} {qv : Value} (h : KV w kb tb mb g P ι s rv wv qv) {W : World} (hb : Below w.heap.size w W) (i : Nat) (hi : i < 3) :
    W.cell? ⟨kb, 3 + i * 2, none⟩ = some (rv i) ∧ W.cell? ⟨kb, 3 + i * 2 + 1, none⟩ = some (wv i) :=
  ⟨(hb.cell (p := ⟨kb, _, none⟩) h.lt).trans (h.cr i hi), (hb.cell (p := ⟨kb, _, none⟩) h.lt).trans (h.cw i hi)⟩

/-- What the program is told of a lock. -/
def waysP (hs : List Int) (us : List (List Int)) (qs : List Int) : List (List Int) := (hs.map fun p => [p]) ++ us ++ (qs.map fun p => [p])
theorem DS.Rn.ways {s : DS} {ι : Nat → Nat} (h : s.Rn ι) {a : Ask} (ha : s.AskSm a) {l : List Ask} (hl : ∀ b, b ∈ l → s.AskSm b) :
    waysP (onceI (bitersP (s.R a.file) a.rn)) ((wbP (renW ι (s.W a.file)) (renA ι a).ow a.wk).map (usersG (renF ι s.F))) (qbP (renQ ι l) (renA ι a)) = s.wayP a l := by
  unfold waysP DS.wayP
  rw [holders_eq (h.sm.rp a.file), h.wb ha, h.qb ha hl, List.map_map, List.map_map]
  congr 2
  exact List.map_congr_left fun x hx => h.users (h.sm.w a.file x (List.mem_filter.1 hx).1)

theorem own_one {w : World} {B : Nat} (hB : B ≤ w.heap.size) (x : Int) : (w.alloc (.cells #[.int .i64 x] 3)).ownsRow B 3 1 (.slice (some ⟨w.heap.size, 0, none⟩) 1 1) [x].length (ints [x]) :=
  ⟨by simp [ints], Or.inr ⟨w.heap.size, 1, #[.int .i64 x], rfl, hB, heap_alloc_new w _, Nat.le_refl _, by unfold maxLen; omega, by simp, by simp [ints]⟩⟩
/-- A row of another type stays where one row grew. -/
theorem own_hold {w w' : World} {b1 b2 : Nat} {t1 t2 : TypeId} {z1 z2 : Nat} {v u : Value} {n m : Nat} {xs ys : List Value} (h1 : w.ownsRow b1 t1 z1 v n xs) (h2 : w.ownsRow b2 t2 z2 u m ys) (ht : t1 ≠ t2) (hold : ∀ b, b < w.heap.size → u.ownBlock ≠ some b → w'.heap[b]? = w.heap[b]?) : w'.ownsRow b1 t1 z1 v n xs :=
  own_blk h1 fun b e => hold b (h1.lt b e).2 fun e2 => by
    obtain ⟨c1, k1⟩ := own_tag h1 e
    obtain ⟨c2, k2⟩ := own_tag h2 e2
    rw [k1] at k2
    cases k2
    exact ht rfl

set_option maxHeartbeats 8000000 in
set_option maxRecDepth 100000 in
theorem ways_any {w : World} {kb tb mb : Nat} {g : Int} {P : Nat → Prop} {ι : Nat → Nat} {s : DS} {rv wv : Nat → Value} {qv : Value} (h : KV w kb tb mb g P ι s rv wv qv) (a : Ask) (ha : s.AskSm a) (av : Value) (l : List Ask) (hl : ∀ b, b ∈ l → s.AskSm b) (hln : l.length < 900)
    (hav : w.ownsRow 0 137 8 av (renQ ι l).length (flatQ (renQ ι l))) :
    Calls Tryz.prog 110 #[.pointer (some ⟨kb, 0, none⟩), askV (renA ι a), av] w fun e w' => ∃ v' us, e = .returned v' ∧ WaysAt w' v' (s.wayP a l) us ∧ Below w.heap.size w w' := by
  have hf3 := ha.file
  have hkl := h.lt
  have HK := Hid.mk (fun (W : World) (hb : Below w.heap.size w W) => h.pair hb a.file hf3)
  have hK2 := h.c2
  have HR := Hid.mk (fun (W : World) (hb : Below w.heap.size w W) => Biters_any (v := rv a.file) a.rn (own_below (h.r a.file hf3) hb) (by have := h.sm.len a.file; omega))
  have HW := Hid.mk (fun (W : World) (hb : Below w.heap.size w W) => wBiters_any (v := wv a.file) (renA ι a).ow a.wk (own_below (h.wr a.file hf3) hb) (by rw [renW_len]; have := h.sm.wl a.file; omega)
    (fun x hx => by
      obtain ⟨y, hy, rfl⟩ := List.mem_map.1 hx
      exact (h.opn (h.sm.w a.file y hy)).below hb)
    (fun b e => by
      rw [renA_ow] at e
      cases eo : a.ow with
      | none => rw [eo] at e; cases e
      | some o => rw [eo] at e; cases e; exact (h.opn (ow_lt ha eo)).below hb))
  have HU := Hid.mk (fun (W : World) (hb : Below w.heap.size w W) (b : Nat) (hb2 : Opn w b) => Users_any (h.t.of_block (hb.block tb h.t.lt)) (h.m.of_block (hb.block mb h.m.lt)) b (hb2.below hb) (fun q d x e => (h.opnG q d x e).below hb))
  have HWO : Hid (∀ b, b ∈ wbP (renW ι (s.W a.file)) (renA ι a).ow a.wk → Opn w b) := fun b hb => by
    unfold wbP at hb
    obtain ⟨y, hy, rfl⟩ := List.mem_map.1 hb
    obtain ⟨z, hz, rfl⟩ := List.mem_map.1 (List.mem_filter.1 hy).1
    exact h.opn (h.sm.w a.file z hz)
  have HQ := Hid.mk (fun (W : World) (hb : Below w.heap.size w W) => qBiters_any (v := av) (l := renQ ι l) (renA ι a) (own_below hav hb) (by rw [renQ_len]; omega)
    (fun x hx y e => by
      obtain ⟨z, hz, rfl⟩ := List.mem_map.1 hx
      rw [renA_ow] at e
      cases eo : z.ow with
      | none => rw [eo] at e; cases e
      | some o => rw [eo] at e; cases e; exact (h.opn (ow_lt (hl z hz) eo)).below hb)
    (fun y e => by
      rw [renA_ow] at e
      cases eo : a.ow with
      | none => rw [eo] at e; cases e
      | some o => rw [eo] at e; cases e; exact (h.opn (ow_lt ha eo)).below hb))
  have HE := Hid.mk (h.rn.ways ha hl)
  have hl1 : (onceI (bitersP (s.R a.file) a.rn)).length < 100 := by
    rw [holders_eq (h.sm.rp a.file)]
    unfold holders
    have := List.length_filter_le (fun q => (s.R a.file).any fun x => decide (x.p = q) && a.rn.bites x) ps6
    have e : ps6.length = 6 := rfl
    omega
  have hl2 : (wbP (renW ι (s.W a.file)) (renA ι a).ow a.wk).length ≤ 100 := by
    have := wbP_len (renW ι (s.W a.file)) (renA ι a).ow a.wk
    rw [renW_len] at this
    have := h.sm.wl a.file
    omega
  have hl3 : (qbP (renQ ι l) (renA ι a)).length < 900 := by
    have := qbP_len (renQ ι l) (renA ι a)
    rw [renQ_len] at this
    omega
  rw [← HE.out]
  obtain ⟨ra, rc, hra⟩ := own_form (h.r a.file hf3)
  obtain ⟨wa, wc, hwa⟩ := own_form (h.wr a.file hf3)
  rw [hra] at HK HR
  rw [hwa] at HK HW
  clear hra hwa
  generalize (s.R a.file).length = rl at *
  generalize (renW ι (s.W a.file)).length = wl at *
  generalize onceI (bitersP (s.R a.file) a.rn) = hs at *
  generalize wbP (renW ι (s.W a.file)) (renA ι a).ow a.wk = ws at *
  generalize qbP (renQ ι l) (renA ι a) = qs at *
  generalize usersG (renF ι s.F) = uf at *
  obtain ⟨qa, qc, rfl⟩ := own_form hav
  unfold askV at HQ ⊢
  rw [renA_rn, renA_wk, renA_p, renA_file] at HQ ⊢
  have HBX := Hid.mk (fun (W : World) (B : Nat) (hB : w.heap.size < B) (hb : Below B (w.alloc (.cells #[.int .i64 a.p, .int .i64 a.file, .int .i64 a.rn.p, .int .i64 a.rn.k, .int .i64 a.rn.f, .int .i64 a.rn.t, ptrV (renA ι a).ow, .int .i64 a.wk] 137)) W) => boxed_at (a := renA ι a) (by unfold Ask.boxed; rw [renA_rn, renA_wk, renA_p, renA_file]; exact hb) hB)
  simp only [renA_rn, renA_wk, renA_p, renA_file] at HBX
  unfold ptrV at *
  generalize (renA ι a).ow.map (fun b => (⟨b, 0, none⟩ : Addr)) = A at *
  generalize a.rn = rn at *
  generalize a.wk = wk at *
  generalize a.p = ap at *
  generalize a.file = i at *
  have hi0 : (0 : Int) ≤ (i : Int) := by omega
  have hi3 : (i : Int) < 3 := by omega
  clear h ha hl hav HE hln
  obtain ⟨cr, cw⟩ := HK.out (w.alloc (.cells #[.int .i64 ap, .int .i64 i, .int .i64 rn.p, .int .i64 rn.k, .int .i64 rn.f, .int .i64 rn.t, .pointer A, .int .i64 wk] 137)) ((Below.refl _ _).alloc (Nat.le_refl _) _)
  go_enter Tryz.func110, Tryz.ntmps110
  go_wp2
  go_region
  go_wp2_with (go_at_call 77; refine (HR.out _ ?_).mono ?_; exact (((Below.refl _ _).alloc (Nat.le_refl _) _).alloc (by simp) _).drew; rintro e w1 ⟨v1, rfl, ho1, hb1⟩; obtain ⟨a1, c1, rfl⟩ := own_form ho1; have hz1 := hb1.size; simp at hz1; have HB1 : Hid (Below w.heap.size w w1) := (((Below.refl _ _).alloc (Nat.le_refl _) _).alloc (by simp) _).drew.trans (hb1.mono (by simp <;> omega)); have HD := Hid.mk (HBX.out w1 (w.heap.size + 1) (Nat.lt_succ_self _) ((((Below.refl _ _).alloc (by simp) _).drew).trans (hb1.mono (by simp)))); have HD8 : Hid (w1.cell? ⟨w.heap.size + 1, 0, none⟩ = some (.slice ra rl rc) ∧ w1.cell? ⟨w.heap.size + 1, 1, none⟩ = some (.slice wa wl wc)) := ⟨((bcells hb1).1 _ _ (by simp)).trans (by simp), ((bcells hb1).1 _ _ (by simp)).trans (by simp)⟩; have HO1 := Hid.mk ho1; clear hb1 ho1)
  have HK2 : Hid (w1.cell? ⟨kb, 2, none⟩ = some (.pointer (some ⟨tb, 0, none⟩))) := (HB1.out.cell (p := ⟨kb, 2, none⟩) hkl).trans hK2
  have hkw1 : kb < w1.heap.size := by omega
  clear HK HBX hK2 cr cw HR
  go_loopw [7, 10, 28] (fun s7 _ s28 wr => ∃ (n : Nat) (us : List Value), s28 = .int .i64 n ∧ n ≤ hs.length ∧ Hid (WaysB w1.heap.size wr s7 ((hs.take n).map fun p => [p]) us) ∧ Hid (Below w1.heap.size w1 wr)) (fun _ _ s28 _ => hs.length - (intOf s28).toNat)
  case atStart => exact ⟨0, [], rfl, Nat.zero_le _, WaysB.nil _ _, Below.refl _ _⟩
  case round =>
    obtain ⟨n, us, rfl, hn, HU1, HBr⟩ := hrel
    have hsz : w1.heap.size ≤ wr.heap.size := HBr.out.size
    by_cases hlt : n < hs.length
    · obtain ⟨x, hx⟩ : ∃ x, hs[n]? = some x := ⟨_, List.getElem?_eq_getElem hlt⟩
      obtain ⟨gb, rfl, _, hg, _, hcell⟩ := own_some HO1.out (by omega)
      have hlt' : (n : Int) < (hs.length : Int) := by omega
      have cx : wr.cell? ⟨gb, n, none⟩ = some (.int .i64 x) := (HBr.out.cell (p := ⟨gb, n, none⟩) hg).trans ((hcell n (by omega)).trans (ints_get hx))
      have hgw : gb < wr.heap.size := by omega
      have HT : Hid ((hs.take (n + 1)).map (fun p => [p]) = (hs.take n).map (fun p => [p]) ++ [[x]]) := by show _ = _; rw [List.take_add_one, hx]; simp
      have hll : ((hs.take n).map fun p => [p]).length ≤ 100 := by simp; omega
      obtain ⟨ua, uc, rfl⟩ := own_form HU1.out.own
      clear hcell hx
      go_wp2_with (at_builtin; refine wpList_snoc rfl _ _ _ rfl Tryz.underlying189 Tryz.infoInts rfl (by decide) (by decide) rfl (HU1.out.own.alloc _) (by simp; omega) (by omega) (cs := #[.slice (some ⟨wr.heap.size, 0, none⟩) 1 1]) rfl (by simp) rfl (by simp [Value.oneCell']) ?_; intro v2 w2 ho2 hb2 hz2 hold2; have HO2 := Hid.mk ho2; have HB2 := Hid.mk hb2; have HOL := Hid.mk hold2; clear ho2 hb2 hold2)
      go_roundw
      case rel =>
        refine ⟨n + 1, us ++ [.slice (some ⟨wr.heap.size, 0, none⟩) 1 1], by go_num, by omega, ?_, (HBr.out.alloc hsz _).trans HB2.out⟩
        rw [HT.out]
        exact (HU1.out.below ((Below.refl _ _).alloc (Nat.le_refl _) _)).snoc (own_one hsz x) HO2.out HOL.out
      case measure => simp [intOf]; omega
    · obtain rfl : n = hs.length := by omega
      have HU2 := HU1.out
      rw [List.take_of_length_le (Nat.le_refl _)] at HU2
      have HU3 := Hid.mk HU2
      clear HU1 HU2
      obtain ⟨d0, d1, d2, d3, d4, d5, d6, d7⟩ := HD.out
      obtain ⟨d8, d9⟩ := HD8.out
      have e6 : wr.cell? ⟨w.heap.size, 6, none⟩ = some (.pointer A) := (HBr.out.cell (p := ⟨w.heap.size, 6, none⟩) (by show w.heap.size < _; omega)).trans d6
      have e7 : wr.cell? ⟨w.heap.size, 7, none⟩ = some (.int .i64 wk) := (HBr.out.cell (p := ⟨w.heap.size, 7, none⟩) (by show w.heap.size < _; omega)).trans d7
      have e9 : wr.cell? ⟨w.heap.size + 1, 1, none⟩ = some (.slice wa wl wc) := (HBr.out.cell (p := ⟨w.heap.size + 1, 1, none⟩) (by show w.heap.size + 1 < _; omega)).trans d9
      have hww : w.heap.size < wr.heap.size := by omega
      have hww1 : w.heap.size + 1 < wr.heap.size := by omega
      clear d0 d1 d2 d3 d4 d5 d6 d7 d8 d9
      go_wp2_with (go_at_call 146; refine (HW.out _ (HB1.out.trans (HBr.out.mono (by omega)))).mono ?_; rintro e w2 ⟨v2, rfl, ho2, hb2⟩; obtain ⟨a2, c2, rfl⟩ := own_form ho2; have hz2 := hb2.size; have HB2 : Hid (Below w1.heap.size w1 w2) := HBr.out.trans (hb2.mono hsz); have HU4 := Hid.mk (HU3.out.below hb2); have HO2 := Hid.mk (own_mono ho2 (Nat.zero_le _)); clear hb2 ho2)
      clear HU3 HBr HW e6 e7 e9 hww hww1 hsz
      go_loopw [7, 12, 44] (fun s7 _ s44 wq => ∃ (n : Nat) (us : List Value), s44 = .int .i64 n ∧ n ≤ ws.length ∧ Hid (WaysB w1.heap.size wq s7 ((hs.map fun p => [p]) ++ (ws.take n).map uf) us) ∧ Hid (wq.ownsRow 0 133 1 (.slice a2 ws.length c2) ws.length (ptrs ws)) ∧ Hid (Below w1.heap.size w1 wq)) (fun _ _ s44 _ => ws.length - (intOf s44).toNat)
      case atStart => exact ⟨0, us, rfl, Nat.zero_le _, by show WaysB _ _ _ _ _; simpa using HU4.out, HO2.out, HB2.out⟩
      case round =>
        obtain ⟨n, us2, rfl, hn2, HU5, HO3, HBq⟩ := hrel
        clear HU4 HO2 HB2
        have hsz : w1.heap.size ≤ wr.heap.size := HBq.out.size
        by_cases hlt2 : n < ws.length
        · obtain ⟨x, hx⟩ : ∃ x, ws[n]? = some x := ⟨_, List.getElem?_eq_getElem hlt2⟩
          obtain ⟨gb, rfl, _, hg, _, hcell⟩ := own_some HO3.out (by omega)
          have hlt' : (n : Int) < (ws.length : Int) := by omega
          have cx : wr.cell? ⟨gb, n, none⟩ = some (.pointer (some ⟨x, 0, none⟩)) := (hcell n (by omega)).trans (by simp [ptrs, hx])
          have ck : wr.cell? ⟨kb, 2, none⟩ = some (.pointer (some ⟨tb, 0, none⟩)) := (HBq.out.cell (p := ⟨kb, 2, none⟩) hkw1).trans HK2.out
          have HT : Hid ((hs.map fun p => [p]) ++ (ws.take (n + 1)).map uf = ((hs.map fun p => [p]) ++ (ws.take n).map uf) ++ [uf x]) := by show _ = _; rw [List.take_add_one, hx]; simp
          have hll : ((hs.map fun p => [p]) ++ (ws.take n).map uf).length ≤ 300 := by simp; omega
          have hkq : kb < wr.heap.size := by omega
          generalize ((hs.map fun p => [p]) ++ (ws.take n).map uf) = L at HU5 HT hll
          obtain ⟨ua, uc, rfl⟩ := own_form HU5.out.own
          have HUX := Hid.mk (HU.out wr (HB1.out.trans (HBq.out.mono (by omega))) x (HWO.out x (List.mem_of_getElem? hx)))
          clear hcell hx
          go_wp2_with (first
            | (go_at_call 86; refine HUX.out.mono ?_; rintro e w3 ⟨v3, rfl, ho3, hb3⟩; obtain ⟨a3, c3, rfl⟩ := own_form ho3; have hz3 := hb3.size; have HO4 := Hid.mk ho3; have HB3 := Hid.mk hb3; clear ho3 hb3)
            | (at_builtin; refine wpList_snoc rfl _ _ _ rfl Tryz.underlying189 Tryz.infoInts rfl (by decide) (by decide) rfl (own_below HU5.out.own HB3.out) (by omega) (by omega) (cs := #[.slice a3 (uf x).length c3]) rfl (by simp) rfl (by simp [Value.oneCell']) ?_; intro v4 w4 ho4 hb4 hz4 hold4; have HO5 := Hid.mk ho4; have HB4 := Hid.mk hb4; have HOL := Hid.mk hold4; clear ho4 hb4 hold4))
          go_roundw
          case rel =>
            have hW3 := HU5.out.below HB3.out
            refine ⟨n + 1, us2 ++ [.slice a3 (uf x).length c3], by go_num, by omega, ?_, own_hold (own_below HO3.out HB3.out) hW3.own (by decide) HOL.out, (HBq.out.trans (HB3.out.mono hsz)).trans HB4.out⟩
            rw [HT.out]
            exact hW3.snoc (own_mono HO4.out hsz) HO5.out HOL.out
          case measure => simp [intOf]; omega
        · obtain rfl : n = ws.length := by omega
          have HU6 := HU5.out
          rw [List.take_of_length_le (Nat.le_refl _)] at HU6
          have HU7 := Hid.mk HU6
          clear HU5 HU6 HO3
          obtain ⟨d0, d1, d2, d3, d4, d5, d6, d7⟩ := HD.out
          have hlt0 : w.heap.size < w1.heap.size := by omega
          have f0 := (HBq.out.cell (p := ⟨w.heap.size, 0, none⟩) hlt0).trans d0
          have f1 := (HBq.out.cell (p := ⟨w.heap.size, 1, none⟩) hlt0).trans d1
          have f2 := (HBq.out.cell (p := ⟨w.heap.size, 2, none⟩) hlt0).trans d2
          have f3 := (HBq.out.cell (p := ⟨w.heap.size, 3, none⟩) hlt0).trans d3
          have f4 := (HBq.out.cell (p := ⟨w.heap.size, 4, none⟩) hlt0).trans d4
          have f5 := (HBq.out.cell (p := ⟨w.heap.size, 5, none⟩) hlt0).trans d5
          have f6 := (HBq.out.cell (p := ⟨w.heap.size, 6, none⟩) hlt0).trans d6
          have f7 := (HBq.out.cell (p := ⟨w.heap.size, 7, none⟩) hlt0).trans d7
          clear d0 d1 d2 d3 d4 d5 d6 d7 HD HD8
          go_wp2_with (go_at_call 147; refine (HQ.out _ (HB1.out.trans (HBq.out.mono (by omega)))).mono ?_; rintro e w5 ⟨v5, rfl, ho5, hb5⟩; obtain ⟨a5, c5, rfl⟩ := own_form ho5; have hz5 := hb5.size; have HB5 : Hid (Below w1.heap.size w1 w5) := HBq.out.trans (hb5.mono hsz); have HU8 := Hid.mk (HU7.out.below hb5); have HO5 := Hid.mk (own_mono ho5 (Nat.zero_le _)); clear hb5 ho5)
          clear HU7 HBq HQ f0 f1 f2 f3 f4 f5 f6 f7 hsz
          go_loopw [7, 14, 62] (fun s7 _ s62 wq => ∃ (n : Nat) (us : List Value), s62 = .int .i64 n ∧ n ≤ qs.length ∧ Hid (WaysB w1.heap.size wq s7 ((hs.map fun p => [p]) ++ ws.map uf ++ (qs.take n).map fun p => [p]) us) ∧ Hid (wq.ownsRow 0 3 1 (.slice a5 qs.length c5) qs.length (ints qs)) ∧ Hid (Below w1.heap.size w1 wq)) (fun _ _ s62 _ => qs.length - (intOf s62).toNat)
          case atStart => exact ⟨0, us2, rfl, Nat.zero_le _, by show WaysB _ _ _ _ _; simpa using HU8.out, HO5.out, HB5.out⟩
          case round =>
            obtain ⟨n, us3, rfl, hn3, HU9, HO6, HBz⟩ := hrel
            clear HU8 HO5 HB5
            have hsz : w1.heap.size ≤ wr.heap.size := HBz.out.size
            by_cases hlt3 : n < qs.length
            · obtain ⟨x, hx⟩ : ∃ x, qs[n]? = some x := ⟨_, List.getElem?_eq_getElem hlt3⟩
              obtain ⟨gb, rfl, _, hg, _, hcell⟩ := own_some HO6.out (by omega)
              have hlt' : (n : Int) < (qs.length : Int) := by omega
              have cx : wr.cell? ⟨gb, n, none⟩ = some (.int .i64 x) := (hcell n (by omega)).trans (ints_get hx)
              have HT : Hid ((hs.map fun p => [p]) ++ ws.map uf ++ ((qs.take (n + 1)).map fun p => [p]) = ((hs.map fun p => [p]) ++ ws.map uf ++ ((qs.take n).map fun p => [p])) ++ [[x]]) := by show _ = _; rw [List.take_add_one, hx]; simp
              have hll : ((hs.map fun p => [p]) ++ ws.map uf ++ ((qs.take n).map fun p => [p])).length ≤ 2000 := by simp; omega
              generalize ((hs.map fun p => [p]) ++ ws.map uf ++ ((qs.take n).map fun p => [p])) = L at HU9 HT hll
              obtain ⟨ua, uc, rfl⟩ := own_form HU9.out.own
              clear hcell hx
              go_wp2_with (at_builtin; refine wpList_snoc rfl _ _ _ rfl Tryz.underlying189 Tryz.infoInts rfl (by decide) (by decide) rfl (HU9.out.own.alloc _) (by simp; omega) (by omega) (cs := #[.slice (some ⟨wr.heap.size, 0, none⟩) 1 1]) rfl (by simp) rfl (by simp [Value.oneCell']) ?_; intro v2 w2 ho2 hb2 hz2 hold2; have HO2 := Hid.mk ho2; have HB2 := Hid.mk hb2; have HOL := Hid.mk hold2; clear ho2 hb2 hold2)
              go_roundw
              case rel =>
                have hW3 := HU9.out.below ((Below.refl _ _).alloc (Nat.le_refl _) (.cells #[.int .i64 x] 3))
                refine ⟨n + 1, us3 ++ [.slice (some ⟨wr.heap.size, 0, none⟩) 1 1], by go_num, by omega, ?_, own_hold (own_below HO6.out ((Below.refl _ _).alloc (Nat.le_refl _) _)) hW3.own (by decide) HOL.out, (HBz.out.alloc hsz _).trans HB2.out⟩
                rw [HT.out]
                exact hW3.snoc (own_one hsz x) HO2.out HOL.out
              case measure => simp [intOf]; omega
            · obtain rfl : n = qs.length := by omega
              have HU10 := HU9.out
              rw [List.take_of_length_le (Nat.le_refl _)] at HU10
              have HU11 := Hid.mk HU10
              clear HU9 HU10 HO6
              go_wp2
              go_ret
              exact ⟨_, us3, rfl, HU11.out.at', HB1.out.trans (HBz.out.mono (by omega))⟩
end Go.Proofs.YtaicdjhblbobbaaGreat

/- Contract of the Kernel's give: one has its lock. -/
namespace Go.Proofs.YtaicdjhblbobbaaGreat
open Go.RowKit Go.Lib

theorem Kp.of_setCell {bs : List Nat} {w w1 : World} (h : Below w.heap.size w w1) {a : Addr} (ha : a.block ∈ bs) (v : Value) : Kp bs w (w1.setCell a v) := (Kp.below h).trans (Kp.setCell ha)

set_option maxHeartbeats 8000000 in
set_option maxRecDepth 100000 in
theorem give_whole {w : World} {kb tb mb : Nat} {g : Int} {P : Nat → Prop} {ι : Nat → Nat} {s : DS} {rv wv : Nat → Value} {qv : Value} {B : Nat} (h : KV w kb tb mb g P ι s rv wv qv) (hP : ∀ b, B ≤ b → P b) (hB : B ≤ w.heap.size) (a : Ask) (ha : s.AskSm a) (hw : a.whole = true) (hs : (s.take a).1.Sm) :
    Calls Tryz.prog 111 #[.pointer (some ⟨kb, 0, none⟩), askV (renA ι a)] w fun e w' => e = .returned (.int .i64 (s.take a).2) ∧ (∃ rv' wv', KV w' kb tb mb g P ι (s.take a).1 rv' wv' qv) ∧ Kp [kb] w w' := by
  have hf3 := ha.file
  have hoN := ha.o hw
  have htk : s.take a = ({s with W := updR s.W a.file (setW (s.W a.file) a.o a.k)}, 0) := by unfold DS.take; rw [if_pos hw]
  rw [htk] at hs ⊢
  have hkl := h.lt
  have HK := Hid.mk (fun (W : World) (hb : Below w.heap.size w W) => h.pair hb a.file hf3)
  have HF := Hid.mk (fun (W : World) (hb : Below w.heap.size w W) (o : Nat) => (hb.frozen (p := ⟨kb, o, none⟩) hkl).trans (h.frz o))
  have HOW := Hid.mk (fun (W : World) => OfWhole_any (renA ι a) W)
  have HS := Hid.mk (fun (W : World) (hb : Below w.heap.size w W) => wSet_any (v := wv a.file) (ι a.o) a.k (own_below (h.wr a.file hf3) hb) (by rw [renW_len]; have := h.sm.wl a.file; omega)
    (fun x hx => by
      obtain ⟨y, hy, rfl⟩ := List.mem_map.1 hx
      exact (h.opn (h.sm.w a.file y hy)).below hb) ((h.opn hoN).below hb))
  rw [h.rn.setW hoN] at HS
  have HPw := Hid.mk (h.pw a.file hf3)
  obtain ⟨ra, rc, hra⟩ := own_form (h.r a.file hf3)
  obtain ⟨wa, wc, hwa⟩ := own_form (h.wr a.file hf3)
  rw [hra] at HK
  rw [hwa] at HK HS HPw
  have HH := Hid.mk h
  have HSm := Hid.mk hs
  have how : (renA ι a).ow = some (ι a.o) := by rw [renA_ow]; unfold Ask.ow; rw [if_pos hw]; rfl
  have hwk : a.wk = a.k := by unfold Ask.wk; rw [if_pos hw]
  have hwh : (renA ι a).whole = true := hw
  rw [hwh] at HOW
  unfold askV at HOW ⊢
  rw [how, renA_rn, renA_wk, renA_p, renA_file, hwk] at HOW ⊢
  simp only [ptrV, Option.map_some] at HOW ⊢
  clear h ha hs hra hwa htk how hwk hwh hw
  generalize a.rn = rn at *
  generalize hak : a.k = ak at *
  generalize hap : a.p = ap at *
  generalize hao : a.o = ao at *
  generalize hai : a.file = i at *
  clear hak hap hao hai
  generalize (s.R i).length = rl at *
  generalize hwl : (renW ι (s.W i)).length = wl at *
  clear hwl
  have hi0 : (0 : Int) ≤ (i : Int) := by omega
  have hi3 : (i : Int) < 3 := by omega
  have hbx : Below w.heap.size w (w.alloc (.cells #[.int .i64 ap, .int .i64 i, .int .i64 rn.p, .int .i64 rn.k, .int .i64 rn.f, .int .i64 rn.t, .pointer (some ⟨ι ao, 0, none⟩), .int .i64 ak] 137)) := (Below.refl _ _).alloc (Nat.le_refl _) _
  obtain ⟨cr, cw⟩ := HK.out _ hbx
  have HBX := Hid.mk hbx
  clear hbx
  go_enter Tryz.func111, Tryz.ntmps111
  go_wp2
  go_region
  go_wp2_with (go_at_call 148; refine (HOW.out _).mono ?_; rintro e w1 ⟨rfl, hb1⟩; have hz1 := hb1.size; simp at hz1; have HB1 : Hid (Below w.heap.size w w1) := HBX.out.drew.trans (hb1.mono (by simp)); have e6 : w1.cell? ⟨w.heap.size, 6, none⟩ = some (.pointer (some ⟨ι ao, 0, none⟩)) := ((bcells hb1).1 _ _ (by simp)).trans (by simp); have e7 : w1.cell? ⟨w.heap.size, 7, none⟩ = some (.int .i64 ak) := ((bcells hb1).1 _ _ (by simp)).trans (by simp); clear hb1)
  obtain ⟨cr1, cw1⟩ := HK.out _ HB1.out
  have fz1 := HF.out _ HB1.out (3 + i * 2 + 1)
  go_region_with (go_at_call 149; refine (HS.out _ HB1.out.drew).mono ?_; rintro e w2 ⟨v2, rfl, ho2, hp2, hb2⟩; obtain ⟨a2, c2, rfl⟩ := own_form ho2; have HB2 : Hid (Below w.heap.size w w2) := HB1.out.drew.trans (hb2.mono (by show _ ≤ w1.heap.size; omega)); have cw2 := (HK.out _ HB2.out).2; have fz2 := HF.out _ HB2.out (3 + i * 2 + 1); have HO2 := Hid.mk ho2; have HP2 := Hid.mk hp2; clear ho2 hp2 hb2)
  all_goals
    go_wp2
    go_ret
    refine ⟨rfl, ⟨rv, updR wv i (.slice a2 (renW ι (setW (s.W i) ao ak)).length c2), ?_⟩, Kp.of_setCell HB2.out (by simp) _⟩
    refine (HH.out.below HB2.out).setWholes i hf3 HO2.out (fun b e => ?_) HSm.out
    rcases HP2.out b e with e2 | e2
    · exact HPw.out b e2
    · exact hP b (by have e3 : w1.heap.size ≤ b := e2; omega)

set_option maxHeartbeats 8000000 in
set_option maxRecDepth 100000 in
theorem give_runs {w : World} {kb tb mb : Nat} {g : Int} {P : Nat → Prop} {ι : Nat → Nat} {s : DS} {rv wv : Nat → Value} {qv : Value} {B : Nat} (h : KV w kb tb mb g P ι s rv wv qv) (hP : ∀ b, B ≤ b → P b) (hB : B ≤ w.heap.size) (a : Ask) (ha : s.AskSm a) (hw : a.whole = false) (hs : (s.take a).1.Sm) :
    Calls Tryz.prog 111 #[.pointer (some ⟨kb, 0, none⟩), askV (renA ι a)] w fun e w' => e = .returned (.int .i64 (s.take a).2) ∧ (∃ rv' wv', KV w' kb tb mb g P ι (s.take a).1 rv' wv' qv) ∧ Kp [kb] w w' := by
  have hf3 := ha.file
  have hrg := ha.rg hw
  have hkl := h.lt
  have HK := Hid.mk (fun (W : World) (hb : Below w.heap.size w W) => h.pair hb a.file hf3)
  have HF := Hid.mk (fun (W : World) (hb : Below w.heap.size w W) (o : Nat) => (hb.frozen (p := ⟨kb, o, none⟩) hkl).trans (h.frz o))
  have HOW := Hid.mk (fun (W : World) => OfWhole_any (renA ι a) W)
  have HS := Hid.mk (fun (W : World) (hb : Below w.heap.size w W) => Set_any (rv a.file) (s.R a.file) a.p a.k a.f a.t W (reads_own (own_below (h.r a.file hf3) hb)) (by have := h.sm.len a.file; omega)
    (fun x hx => by have := h.sm.run a.file x hx; unfold Rn.sm; omega) (by omega))
  have HPr := Hid.mk (h.pr a.file hf3)
  obtain ⟨ra, rc, hra⟩ := own_form (h.r a.file hf3)
  obtain ⟨wa, wc, hwa⟩ := own_form (h.wr a.file hf3)
  rw [hra] at HK HS HPr
  rw [hwa] at HK
  have HH := Hid.mk h
  have how : (renA ι a).ow = none := by rw [renA_ow]; unfold Ask.ow; rw [hw]; rfl
  have hwk : a.wk = 0 := by unfold Ask.wk; rw [hw]; rfl
  have hrn : a.rn = ⟨a.p, a.k, a.f, a.t⟩ := by unfold Ask.rn; rw [hw]; rfl
  have hwh : (renA ι a).whole = false := hw
  have htk : s.take a = if 12 < (setR (s.R a.file) ⟨a.p, a.k, a.f, a.t⟩).length then (s, 9) else ({s with R := updR s.R a.file (setR (s.R a.file) ⟨a.p, a.k, a.f, a.t⟩)}, 0) := by
    unfold DS.take Ask.run; rw [hw]; rfl
  rw [htk] at hs ⊢
  rw [hwh] at HOW
  unfold askV at HOW ⊢
  rw [how, renA_rn, renA_wk, renA_p, renA_file, hwk, hrn] at HOW ⊢
  simp only [ptrV, Option.map_none] at HOW ⊢
  clear h ha hra hwa htk how hwk hwh hw hrn hrg
  generalize setR (s.R a.file) ⟨a.p, a.k, a.f, a.t⟩ = nl at *
  generalize hak : a.k = ak at *
  generalize hap : a.p = ap at *
  generalize haf : a.f = af at *
  generalize hat : a.t = at_ at *
  generalize hai : a.file = i at *
  clear hak hap haf hat hai
  generalize (s.R i).length = rl at *
  generalize hwl : (renW ι (s.W i)).length = wl at *
  clear hwl
  have hi0 : (0 : Int) ≤ (i : Int) := by omega
  have hi3 : (i : Int) < 3 := by omega
  have hbx : Below w.heap.size w (w.alloc (.cells #[.int .i64 ap, .int .i64 i, .int .i64 ap, .int .i64 ak, .int .i64 af, .int .i64 at_, .pointer none, .int .i64 0] 137)) := (Below.refl _ _).alloc (Nat.le_refl _) _
  obtain ⟨cr, cw⟩ := HK.out _ hbx
  have HBX := Hid.mk hbx
  clear hbx
  by_cases hN : 12 < nl.length
  · have hN' : (12 : Int) < (nl.length : Int) := by omega
    simp only [if_pos hN] at hs ⊢
    clear hN
    go_enter Tryz.func111, Tryz.ntmps111
    go_wp2
    go_region
    go_wp2_with (go_at_call 148; refine (HOW.out _).mono ?_; rintro e w1 ⟨rfl, hb1⟩; have hz1 := hb1.size; simp at hz1; have HB1 : Hid (Below w.heap.size w w1) := HBX.out.drew.trans (hb1.mono (by simp)); have e2 : w1.cell? ⟨w.heap.size, 2, none⟩ = some (.int .i64 ap) := ((bcells hb1).1 _ _ (by simp)).trans (by simp); have e3 : w1.cell? ⟨w.heap.size, 3, none⟩ = some (.int .i64 ak) := ((bcells hb1).1 _ _ (by simp)).trans (by simp); have e4 : w1.cell? ⟨w.heap.size, 4, none⟩ = some (.int .i64 af) := ((bcells hb1).1 _ _ (by simp)).trans (by simp); have e5 : w1.cell? ⟨w.heap.size, 5, none⟩ = some (.int .i64 at_) := ((bcells hb1).1 _ _ (by simp)).trans (by simp); clear hb1)
    obtain ⟨cr1, cw1⟩ := HK.out _ HB1.out
    go_region_with (go_at_call 150; refine (HS.out _ HB1.out.drew).mono ?_; rintro e w2 ⟨v2, rfl, hg2, hb2⟩; obtain ⟨a2, c2, rfl⟩ := own_form hg2.own; have HB2 : Hid (Below w.heap.size w w2) := HB1.out.drew.trans (hb2.mono (by show _ ≤ w1.heap.size; omega)); have cr2 := (HK.out _ HB2.out).1; have fz2 := HF.out _ HB2.out (3 + i * 2); have HO2 := Hid.mk hg2.own; clear hg2 hb2)
    all_goals
      go_wp2
      go_ret
      exact ⟨rfl, ⟨rv, wv, HH.out.below HB2.out⟩, Kp.below HB2.out⟩
  · have hN' : ¬ (12 : Int) < (nl.length : Int) := by omega
    simp only [if_neg hN] at hs ⊢
    have HSm := Hid.mk hs
    clear hN hs
    go_enter Tryz.func111, Tryz.ntmps111
    go_wp2
    go_region
    go_wp2_with (go_at_call 148; refine (HOW.out _).mono ?_; rintro e w1 ⟨rfl, hb1⟩; have hz1 := hb1.size; simp at hz1; have HB1 : Hid (Below w.heap.size w w1) := HBX.out.drew.trans (hb1.mono (by simp)); have e2 : w1.cell? ⟨w.heap.size, 2, none⟩ = some (.int .i64 ap) := ((bcells hb1).1 _ _ (by simp)).trans (by simp); have e3 : w1.cell? ⟨w.heap.size, 3, none⟩ = some (.int .i64 ak) := ((bcells hb1).1 _ _ (by simp)).trans (by simp); have e4 : w1.cell? ⟨w.heap.size, 4, none⟩ = some (.int .i64 af) := ((bcells hb1).1 _ _ (by simp)).trans (by simp); have e5 : w1.cell? ⟨w.heap.size, 5, none⟩ = some (.int .i64 at_) := ((bcells hb1).1 _ _ (by simp)).trans (by simp); clear hb1)
    obtain ⟨cr1, cw1⟩ := HK.out _ HB1.out
    go_region_with (go_at_call 150; refine (HS.out _ HB1.out.drew).mono ?_; rintro e w2 ⟨v2, rfl, hg2, hb2⟩; obtain ⟨a2, c2, rfl⟩ := own_form hg2.own; have HB2 : Hid (Below w.heap.size w w2) := HB1.out.drew.trans (hb2.mono (by show _ ≤ w1.heap.size; omega)); have cr2 := (HK.out _ HB2.out).1; have fz2 := HF.out _ HB2.out (3 + i * 2); have HO2 := Hid.mk hg2.own; clear hg2 hb2)
    all_goals
      go_wp2
      go_ret
      refine ⟨rfl, ⟨updR rv i (.slice a2 nl.length c2), wv, ?_⟩, Kp.of_setCell HB2.out (by simp) _⟩
      refine (HH.out.below HB2.out).setRuns i hf3 (own_mono HO2.out (Nat.zero_le _)) (fun b e => ?_) HSm.out
      exact hP b (by have e3 : w1.heap.size ≤ b := (HO2.out.lt b e).1; omega)

theorem give_any {w : World} {kb tb mb : Nat} {g : Int} {P : Nat → Prop} {ι : Nat → Nat} {s : DS} {rv wv : Nat → Value} {qv : Value} {B : Nat} (h : KV w kb tb mb g P ι s rv wv qv) (hP : ∀ b, B ≤ b → P b) (hB : B ≤ w.heap.size) (a : Ask) (ha : s.AskSm a) (hs : (s.take a).1.Sm) :
    Calls Tryz.prog 111 #[.pointer (some ⟨kb, 0, none⟩), askV (renA ι a)] w fun e w' => e = .returned (.int .i64 (s.take a).2) ∧ (∃ rv' wv', KV w' kb tb mb g P ι (s.take a).1 rv' wv' qv) ∧ Kp [kb] w w' := by
  cases hw : a.whole
  · exact give_runs h hP hB a ha hw hs
  · exact give_whole h hP hB a ha hw hs
end Go.Proofs.YtaicdjhblbobbaaGreat

/- Contract of the Kernel's lastStuck: who asked last of the greatest stuck set. -/
namespace Go.Proofs.YtaicdjhblbobbaaGreat
open Go.RowKit Go.Lib

theorem WaysAt.hold {w w' : World} {u : Value} {L : List (List Int)} {us : List Value} (h : WaysAt w u L us) {b2 : Nat} {t2 : TypeId} {z2 : Nat} {v : Value} {m : Nat} {ys : List Value} (h2 : w.ownsRow b2 t2 z2 v m ys) (n1 : 25 ≠ t2) (n2 : 3 ≠ t2) (hold : ∀ b, b < w.heap.size → v.ownBlock ≠ some b → w'.heap[b]? = w.heap[b]?) : WaysAt w' u L us :=
  ⟨h.len, own_hold h.own h2 n1 hold, fun j c t e1 e2 => own_hold (h.each j c t e1 e2) h2 n2 hold⟩
theorem WtAt.snoc {base : Nat} {w w' : World} {v v' : Value} {l : List Wt} {us : List Value} (h : WtAt base w v l us) {x : Wt} {u : Value} {ts : List Value} (hu : WaysAt w u x.2 ts)
    (ho : w'.ownsRow base 234 2 v' (l.length + 1) (flatWt l us ++ [.int .i64 x.1, u])) (hold : ∀ b, b < w.heap.size → v.ownBlock ≠ some b → w'.heap[b]? = w.heap[b]?) : WtAt base w' v' (l ++ [x]) (us ++ [u]) := by
  refine ⟨by simp [h.len], by rw [List.length_append, flatWt_snoc l us x u h.len]; exact ho, fun j y z e1 e2 => ?_⟩
  by_cases hj : j < l.length
  · rw [List.getElem?_append_left hj] at e1
    rw [List.getElem?_append_left (by rw [h.len]; exact hj)] at e2
    obtain ⟨ts', ht⟩ := h.each j y z e1 e2
    exact ⟨ts', ht.hold h.own (by decide) (by decide) hold⟩
  · have hjl : j = l.length := by
      have := (List.getElem?_eq_some_iff.1 e1).1
      simp at this
      omega
    subst hjl
    simp only [List.getElem?_concat_length, Option.some.injEq] at e1
    rw [← h.len] at e2
    simp only [List.getElem?_concat_length, Option.some.injEq] at e2
    subst e1 e2
    exact ⟨ts, hu.hold h.own (by decide) (by decide) hold⟩
theorem DS.wts_len (s : DS) : s.wts.length = s.Q.length := by simp [DS.wts]
theorem DS.wts_take {s : DS} {n : Nat} {a : Ask} (h : s.Q[n]? = some a) : s.wts.take (n + 1) = s.wts.take n ++ [(a.p, s.wayP a (s.Q.take n))] := by
  rw [List.take_add_one]
  congr 1
  unfold DS.wts
  rw [List.getElem?_map, List.getElem?_zipIdx, h]
  simp
theorem DS.wayP_len (s : DS) (h : ∀ f, (s.W f).length ≤ 100) (a : Ask) (l : List Ask) (hl : l.length < 800) : (s.wayP a l).length < 1000 := by
  unfold DS.wayP
  simp only [List.length_append, List.length_map]
  have h1 : (holders (s.R a.file) a.rn).length ≤ 6 := by unfold holders; exact Nat.le_trans (List.length_filter_le _ _) (Nat.le_refl _)
  have h2 := List.length_filter_le (fun w : Wl => bitesW (some w.o) w.k a.ow a.wk) (s.W a.file)
  have h3 := List.length_filter_le (fun b => bitesQ b a) l
  have := h a.file
  omega
theorem DS.wts_short {s : DS} (h : ∀ f, (s.W f).length ≤ 100) (hl : s.Q.length < 800) : ∀ x, x ∈ s.wts → x.short := by
  intro x hx
  unfold DS.wts at hx
  obtain ⟨y, hy, rfl⟩ := List.mem_map.1 hx
  refine ⟨s.wayP_len h y.1 _ (by rw [List.length_take]; omega), fun c hc => ?_⟩
  simp only [DS.wayP, List.mem_append, List.mem_map] at hc
  rcases hc with (⟨p, _, rfl⟩ | ⟨z, _, rfl⟩) | ⟨b, _, rfl⟩
  · simp
  · have := List.length_filter_le (s.has z.o) ps6
    have e : ps6.length = 6 := rfl
    show (ps6.filter (s.has z.o)).length < 1000
    omega
  · simp

set_option maxHeartbeats 8000000 in
set_option maxRecDepth 100000 in
theorem lastStuck_any {w : World} {kb tb mb : Nat} {g : Int} {P : Nat → Prop} {ι : Nat → Nat} {s : DS} {rv wv : Nat → Value} {qv : Value} (h : KV w kb tb mb g P ι s rv wv qv) (lv : Value) (l : List Ask) (hl : ∀ b, b ∈ l → s.AskSm b) (hln : l.length < 800)
    (hlv : w.ownsRow 0 137 8 lv (renQ ι l).length (flatQ (renQ ι l))) :
    Calls Tryz.prog 113 #[.pointer (some ⟨kb, 0, none⟩), lv] w fun e w' => e = .returned (.tuple #[.int .i64 ((lastP (DS.wts {s with Q := l})).getD 0), .bool (lastP (DS.wts {s with Q := l})).isSome]) ∧ Below w.heap.size w w' := by
  obtain ⟨qa, qc, rfl⟩ := own_form hlv
  rw [renQ_len] at *
  have HWY := Hid.mk (fun (W : World) (hb : Below w.heap.size w W) (n : Nat) (a : Ask) (hx : l[n]? = some a) => by
    have hn : n < l.length := (List.getElem?_eq_some_iff.1 hx).1
    have hcut : W.ownsRow 0 137 8 (.slice qa n qc) (renQ ι (l.take n)).length (flatQ (renQ ι (l.take n))) := by
      have h1 := own_below hlv hb
      obtain ⟨gq, rfl, _⟩ := own_some h1 (by omega)
      have h2 := own_cut h1 (k := n) (by omega)
      rw [renQ_len, renQ_take, ← DelInv.flat (by rw [renQ_len]; omega), List.length_take, Nat.min_eq_left (by omega)]
      exact h2
    exact ways_any (h.below hb) a (hl a (List.mem_of_getElem? hx)) (.slice qa n qc) (l.take n) (fun b hb => hl b (List.mem_of_mem_take hb)) (by rw [List.length_take]; omega) hcut)
  have HSS := Hid.mk (fun n (a : Ask) (hx : l[n]? = some a) => DS.wts_take (s := {s with Q := l}) hx)
  have HLL := Hid.mk (DS.wts_len {s with Q := l})
  have HSH : Hid (∀ x, x ∈ DS.wts {s with Q := l} → x.short) := DS.wts_short (s := {s with Q := l}) h.sm.wl hln
  have HV := Hid.mk hlv
  have HLP := Hid.mk (show lastP (DS.wts {s with Q := l}) = ((greatF (DS.wts {s with Q := l})).getLast?).map (·.1) from rfl)
  rw [HLP.out]
  have HWY2 : Hid (∀ (W : World) (_ : Below w.heap.size w W) (n : Nat) (a : Ask) (_ : l[n]? = some a), Calls Tryz.prog 110 #[.pointer (some ⟨kb, 0, none⟩), askV (renA ι a), .slice qa n qc] W fun e w' => ∃ v' us, e = .returned v' ∧ WaysAt w' v' (DS.wayP {s with Q := l} a (l.take n)) us ∧ Below W.heap.size W w') := HWY.out
  clear HWY hlv h hl HLP
  generalize DS.wts {s with Q := l} = T at *
  generalize hwp : DS.wayP {s with Q := l} = wp at *
  clear hwp
  have HLL' : T.length = l.length := HLL.out
  go_enter Tryz.func113, Tryz.ntmps113
  go_wp2
  go_loopw [6, 7, 12] (fun s6 _ s12 wr => ∃ (n : Nat) (us : List Value), s12 = .int .i64 n ∧ n ≤ l.length ∧ Hid (WtAt w.heap.size wr s6 (T.take n) us) ∧ Hid (Below w.heap.size w wr)) (fun _ _ s12 _ => l.length - (intOf s12).toNat)
  case atStart => exact ⟨0, [], rfl, Nat.zero_le _, ⟨rfl, World.ownsRow_nil _ _ _ _, fun i x u e => by simp at e⟩, Below.refl _ _⟩
  case round =>
    obtain ⟨n, us, rfl, hn, HW, HB⟩ := hrel
    have hsz : w.heap.size ≤ wr.heap.size := HB.out.size
    by_cases hlt : n < l.length
    · obtain ⟨x, hx⟩ : ∃ x, l[n]? = some x := ⟨_, List.getElem?_eq_getElem hlt⟩
      have hv2 := HV.out
      obtain ⟨gb, rfl, _, hg, hqc, hat⟩ := askAt (l := renQ ι l) (a := qa) (c := qc) (by rw [renQ_len]; exact hv2) (renQ_get hx)
      obtain ⟨c0, c1, c2, c3, c4, c5, c6, c7⟩ := hat.below HB.out hg
      rw [renQ_len] at hqc
      have hlt' : (n : Int) < (l.length : Int) := by omega
      have hgw : gb < wr.heap.size := by omega
      have hnc : (n : Int) ≤ (qc : Int) := by omega
      have hnc2 : n ≤ qc := by omega
      have HT := Hid.mk (HSS.out n x hx)
      have hc := fun (W : World) (hb : Below w.heap.size w W) => HWY2.out W hb n x hx
      unfold askV at hc
      have HC := Hid.mk hc
      have hll : (T.take n).length ≤ 1000 := by simp; omega
      generalize hL : T.take n = L at *
      have HL2 := Hid.mk hL
      clear hat hx hv2 hc hL
      obtain ⟨ua, uc, rfl⟩ := own_form HW.out.own
      unfold ptrV at *
      generalize (renA ι x).ow.map (fun b => (⟨b, 0, none⟩ : Addr)) = A at *
      simp only [renA_rn, renA_wk, renA_p, renA_file] at HC c0 c1 c2 c3 c4 c5 c6 c7
      generalize wp x (l.take n) = WL at *
      go_upto_region 5 with fail
      go_region_held3 (fun u => u.cell? ⟨wr.heap.size, 0, none⟩ = some (.int .i64 x.p) ∧ u.cell? ⟨wr.heap.size, 1, none⟩ = some (.int .i64 x.file) ∧ u.cell? ⟨wr.heap.size, 2, none⟩ = some (.int .i64 x.rn.p) ∧ u.cell? ⟨wr.heap.size, 3, none⟩ = some (.int .i64 x.rn.k) ∧ u.cell? ⟨wr.heap.size, 4, none⟩ = some (.int .i64 x.rn.f) ∧ u.cell? ⟨wr.heap.size, 5, none⟩ = some (.int .i64 x.rn.t) ∧ u.cell? ⟨wr.heap.size, 6, none⟩ = some (.pointer A) ∧ u.cell? ⟨wr.heap.size, 7, none⟩ = some (.int .i64 x.wk)) (simp [go_sem, World.cell?_alloc_past, *])
        (first
          | (go_at_call 110; refine (HC.out _ ?_).mono ?_; exact (HB.out.alloc hsz _).drew; rintro e w3 ⟨v3, us3, rfl, hwy, hb3⟩; obtain ⟨a3, c3, rfl⟩ := own_form hwy.own; have hz3 := hb3.size; simp at hz3; have hww : wr.heap.size < w3.heap.size := (by omega); have k0 : w3.cell? ⟨wr.heap.size, 0, none⟩ = some (.int .i64 x.p) := ((bcells hb3).1 _ _ (by simp)).trans (by simp); have k1 : w3.cell? ⟨wr.heap.size, 1, none⟩ = some (.int .i64 x.file) := ((bcells hb3).1 _ _ (by simp)).trans (by simp); have k2 : w3.cell? ⟨wr.heap.size, 2, none⟩ = some (.int .i64 x.rn.p) := ((bcells hb3).1 _ _ (by simp)).trans (by simp); have k3 : w3.cell? ⟨wr.heap.size, 3, none⟩ = some (.int .i64 x.rn.k) := ((bcells hb3).1 _ _ (by simp)).trans (by simp); have k4 : w3.cell? ⟨wr.heap.size, 4, none⟩ = some (.int .i64 x.rn.f) := ((bcells hb3).1 _ _ (by simp)).trans (by simp); have k5 : w3.cell? ⟨wr.heap.size, 5, none⟩ = some (.int .i64 x.rn.t) := ((bcells hb3).1 _ _ (by simp)).trans (by simp); have k6 : w3.cell? ⟨wr.heap.size, 6, none⟩ = some (.pointer A) := ((bcells hb3).1 _ _ (by simp)).trans (by simp); have k7 : w3.cell? ⟨wr.heap.size, 7, none⟩ = some (.int .i64 x.wk) := ((bcells hb3).1 _ _ (by simp)).trans (by simp); have HBW : Hid (Below wr.heap.size wr w3) := (((Below.refl _ _).alloc (Nat.le_refl _) _).drew).trans (hb3.mono (by simp)); have HY := Hid.mk hwy; clear hwy hb3)
          | (refine step_snoc (by rfl) _ _ _ (by rfl) Tryz.underlying232 Tryz.infoWaiter (by rfl) (by decide) (by decide) (by rfl) ((own_below HW.out.own HBW.out).alloc _) (by simp; omega) (by omega) (cs := #[.int .i64 x.p, .slice a3 WL.length c3]) (by rfl) (heap_alloc_new w3 _) (by rfl) (by simp [Value.oneCell']) ?_; intro v4 w4 ho4 hb4 hz4 hk4; have hbk := (hk4 wr.heap.size (Nat.lt_of_lt_of_le hww (by simp)) (fun e => by have := (HW.out.own.lt _ e).2; omega)).trans (Below.heap_alloc _ _ _ hww); have j0 := (World.cell?_of_block (a := ⟨wr.heap.size, 0, none⟩) hbk).trans k0; have j1 := (World.cell?_of_block (a := ⟨wr.heap.size, 1, none⟩) hbk).trans k1; have j2 := (World.cell?_of_block (a := ⟨wr.heap.size, 2, none⟩) hbk).trans k2; have j3 := (World.cell?_of_block (a := ⟨wr.heap.size, 3, none⟩) hbk).trans k3; have j4 := (World.cell?_of_block (a := ⟨wr.heap.size, 4, none⟩) hbk).trans k4; have j5 := (World.cell?_of_block (a := ⟨wr.heap.size, 5, none⟩) hbk).trans k5; have j6 := (World.cell?_of_block (a := ⟨wr.heap.size, 6, none⟩) hbk).trans k6; have j7 := (World.cell?_of_block (a := ⟨wr.heap.size, 7, none⟩) hbk).trans k7; have HO4 := Hid.mk ho4; have HB4 := Hid.mk hb4; have HK4 := Hid.mk hk4; clear ho4 hb4 hk4 hbk))
      go_wp2
      go_roundw
      case rel =>
        refine ⟨n + 1, us ++ [.slice a3 WL.length c3], by go_num, by omega, ?_, ((HB.out.trans (HBW.out.mono hsz)).alloc (by omega) _).trans (HB4.out.mono (by omega))⟩
        rw [HT.out]
        have hb5 : Below wr.heap.size wr (w3.alloc (.cells #[.int .i64 x.p, .slice a3 WL.length c3] 234)) := HBW.out.alloc (by omega) _
        exact (HW.out.below hb5).snoc (x := (x.p, WL)) (HY.out.below ((Below.refl _ _).alloc (Nat.le_refl _) _)) HO4.out HK4.out
      case measure => simp [intOf]; omega
    · obtain rfl : n = l.length := by omega
      have HW1 := HW.out
      rw [List.take_of_length_le (by omega)] at HW1
      have HW2 := Hid.mk HW1
      have HG := Hid.mk (Greatest_any (w := wr) ⟨HW1.len, own_mono HW1.own (Nat.zero_le _), HW1.each⟩ (by omega) HSH.out)
      clear HW HW1
      generalize hGG : greatF T = G at HG
      have HGG := Hid.mk hGG
      have hgb : G.length ≤ T.length := by rw [← hGG]; exact (greatN_short HSH.out _).2
      clear hGG
      rcases List.eq_nil_or_concat G with hG | ⟨G', y, hG⟩
      · have HGN : Hid (greatF T = []) := HGG.out.trans hG
        subst hG
        go_wp2_with (go_at_call 151; refine HG.out.mono ?_; rintro e w3 ⟨v3, us3, rfl, hwt, hb3⟩; obtain ⟨a3, c3, rfl⟩ := own_form hwt.own; have HB3 := Hid.mk hb3; clear hwt hb3)
        go_ret2
        exact ⟨by rw [HGN.out]; rfl, HB.out.trans (HB3.out.mono hsz)⟩
      · have hGl : G.length = G'.length + 1 := by rw [hG]; simp
        have hgb' : G'.length < 800 := by omega
        clear hgb
        have hgy : G[G'.length]? = some y := by rw [hG]; simp
        have HLA : Hid (G.getLast? = some y) := by show _ = _; rw [hG]; simp
        clear hG
        go_wp2_with (go_at_call 151; refine HG.out.mono ?_; rintro e w3 ⟨v3, us3, rfl, hwt, hb3⟩; obtain ⟨a3, c3, hv3⟩ := own_form hwt.own; rw [hv3] at hwt; obtain ⟨gg, u3, rfl, _, hgg, _, cc0, cc1⟩ := hwt.get hgy; rw [hGl] at hv3; subst hv3; clear hGl hgy; have HB3 := Hid.mk hb3; clear hwt hb3)
        go_ret2
        exact ⟨by rw [HGG.out, HLA.out]; rfl, HB.out.trans (HB3.out.mono hsz)⟩
end Go.Proofs.YtaicdjhblbobbaaGreat
