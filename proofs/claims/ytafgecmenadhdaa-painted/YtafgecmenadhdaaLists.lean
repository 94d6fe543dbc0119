/- Contracts of List.Set, List.Without and List.Biter. -/
import Derived.Test.YtafgecmenadhdaaJoin
namespace Go.Proofs.Ytafgecmenadhdaa
open Go.RowKit Go.Lib

theorem Good.reads {base : Nat} {W : World} {v : Value} {rest : List Rn} (h : Good base W v rest) : Reads W v rest := by
  rcases h.own.2 with ⟨hv, h0⟩ | ⟨g, cap, cur, hv, hg, hcur, r⟩
  · exact Or.inl ⟨hv, List.eq_nil_of_length_eq_zero h0⟩
  · refine Or.inr ⟨g, cap, hv, ⟨cur, hcur⟩, RowAt.owned (base := base) (n := rest.length) (cap := cap) ?_⟩
    have := h.own
    rw [hv] at this
    exact this
theorem Reads.below {w w' : World} {v : Value} {l : List Rn} (h : Reads w v l) (hb : Below w.heap.size w w') : Reads w' v l := by
  rcases h with h | ⟨g, cap, hv, hg, hr⟩
  · exact Or.inl h
  · exact Or.inr ⟨g, cap, hv, hg.of_block (hb.block g hg.lt), hr.below hb hg.lt⟩

/-- What cut leaves has small positions, if the list and the hole have. -/
theorem cutS_sm {h : Rn} (hh : -99 ≤ h.f ∧ h.f ≤ 99 ∧ -99 ≤ h.t ∧ h.t ≤ 99) {rest : List Rn} {r : Rn} (hr : r.sm) (hs : ∀ x, x ∈ rest → x.sm) : ∀ x, x ∈ cutS h rest r → x.sm := by
  intro x hx
  unfold cutS at hx
  have hr' := hr
  unfold Rn.sm at hr'
  split at hx
  · rcases mem_insR.1 hx with rfl | hx
    · exact hr
    · exact hs x hx
  · dsimp only at hx
    have key : ∀ y, y ∈ (if r.f < h.f then insR rest ⟨r.p, r.k, r.f, h.f - 1⟩ else rest) → y.sm := fun y hy => by
      split at hy
      · rcases mem_insR.1 hy with rfl | hy
        · unfold Rn.sm; simp only; omega
        · exact hs y hy
      · exact hs y hy
    split at hx
    · rcases mem_insR.1 hx with rfl | hx
      · unfold Rn.sm; simp only; omega
      · exact key x hx
    · exact key x hx
theorem cutR_sm {h : Rn} (hh : -99 ≤ h.f ∧ h.f ≤ 99 ∧ -99 ≤ h.t ∧ h.t ≤ 99) (l : List Rn) (hl : ∀ x, x ∈ l → x.sm) : ∀ x, x ∈ cutR l h → x.sm := by
  have : ∀ (l rest : List Rn), (∀ x, x ∈ l → x.sm) → (∀ x, x ∈ rest → x.sm) → ∀ x, x ∈ l.foldl (cutS h) rest → x.sm := fun l => by
    induction l with
    | nil => exact fun _ _ h => h
    | cons a t ih => exact fun rest h1 h2 => ih _ (fun x hx => h1 x (List.mem_cons_of_mem _ hx)) (cutS_sm hh (h1 a List.mem_cons_self) h2)
  exact this l [] hl (fun x hx => by cases hx)

set_option maxHeartbeats 2000000 in
theorem Without_any (v : Value) (l : List Rn) (p : Int) (w : World) (hv : Reads w v l) (hl : l.length < 1000) :
    Calls Try.prog 60 #[v, .int .i64 p] w fun e w' => ∃ v', e = .returned v' ∧ Good w.heap.size w' v' (cutR l ⟨p, 0, 0, 63⟩) ∧ Below w.heap.size w w' := by
  have HV : Hid _ := hv
  clear hv
  go_enter Try.func60, Try.ntmps60
  go_wp2_with (go_at_call 57; refine (cut_any _ l _ _ _ _ _ HV.out hl (by omega) (by omega)).mono ?_; rintro e w' ⟨v', rfl, hG', hgb⟩)
  go_ret
  exact ⟨_, rfl, hG', hgb⟩

set_option maxHeartbeats 2000000 in
theorem Set_any (v : Value) (l : List Rn) (rp rk rf rt : Int) (w : World) (hv : Reads w v l) (hl : l.length < 400) (hsm : ∀ x, x ∈ l → x.sm) (hr : 0 ≤ rf ∧ rf ≤ 63 ∧ 0 ≤ rt ∧ rt ≤ 63) :
    Calls Try.prog 38 #[v, .agg #[.int .i64 rp, .int .i64 rk, .int .i64 rf, .int .i64 rt]] w fun e w' => ∃ v', e = .returned v' ∧ Good w.heap.size w' v' (setR l ⟨rp, rk, rf, rt⟩) ∧ Below w.heap.size w w' := by
  have HV : Hid _ := hv
  have HS : Hid _ := hsm
  have hlc := length_cutR l ⟨rp, rk, rf, rt⟩
  have hcs : Hid _ := cutR_sm (h := ⟨rp, rk, rf, rt⟩) (by simp only; omega) l hsm
  obtain ⟨hr1, hr2, hr3, hr4⟩ := hr
  clear hv hsm
  by_cases hk : rk = 0
  · have HK : Hid _ := hk
    have hkb : (rk == 0) = true := by simpa using hk
    clear hk
    go_enter Try.func38, Try.ntmps38
    go_wp2_with (go_at_call 57; refine (cut_any _ l _ _ _ _ _ (Reads.below HV.out ((Below.refl _ _).alloc (Nat.le_refl _) _)) (by omega) (by omega) (by omega)).mono ?_; rintro e w' ⟨v', rfl, hG', hgb⟩; have HG1 : Hid _ := hG'; have HB1 : Hid _ := hgb; have b1 : w'.cell? ⟨w.heap.size, 1, none⟩ = some (.int .i64 rk) := ((bcell hgb).1 _ _ (by simp)).trans (by simp); clear hG' hgb)
    go_ret
    refine ⟨_, rfl, ?_, ((Below.refl _ _).alloc (Nat.le_refl _) _).trans (HB1.out.mono (by simp))⟩
    have := HG1.out.base (B := w.heap.size) (by simp)
    have e1 : setR l ⟨rp, rk, rf, rt⟩ = cutR l ⟨rp, rk, rf, rt⟩ := by simp [setR, HK.out]
    rw [e1]
    exact this
  · have HK : Hid _ := hk
    have hkb : (rk == 0) = false := by simpa using hk
    clear hk
    go_enter Try.func38, Try.ntmps38
    go_wp2_with (first
      | (go_at_call 57; refine (cut_any _ l _ _ _ _ _ (Reads.below HV.out ((Below.refl _ _).alloc (Nat.le_refl _) _)) (by omega) (by omega) (by omega)).mono ?_; rintro e w' ⟨v', rfl, hG', hgb⟩; have HG1 : Hid _ := hG'; have HB1 : Hid _ := hgb; have b0 : w'.cell? ⟨w.heap.size, 0, none⟩ = some (.int .i64 rp) := ((bcell hgb).1 _ _ (by simp)).trans (by simp); have b1 : w'.cell? ⟨w.heap.size, 1, none⟩ = some (.int .i64 rk) := ((bcell hgb).1 _ _ (by simp)).trans (by simp); have b2 : w'.cell? ⟨w.heap.size, 2, none⟩ = some (.int .i64 rf) := ((bcell hgb).1 _ _ (by simp)).trans (by simp); have b3 : w'.cell? ⟨w.heap.size, 3, none⟩ = some (.int .i64 rt) := ((bcell hgb).1 _ _ (by simp)).trans (by simp); clear hG' hgb)
      | (go_at_call 58; refine (join_any _ (cutR l ⟨rp, rk, rf, rt⟩) _ _ _ _ _ HG1.out.reads (by omega) hcs.out (by unfold Rn.sm; simp only; omega)).mono ?_; rintro e w2 ⟨v2, rfl, hG2, hgb2⟩; have HG2 : Hid _ := hG2; have HB2 : Hid _ := hgb2; clear hG2 hgb2))
    go_ret
    have hz := HB1.out.size
    simp at hz
    refine ⟨_, rfl, ?_, (((Below.refl _ _).alloc (Nat.le_refl _) _).trans (HB1.out.mono (by simp))).trans (HB2.out.mono (by omega))⟩
    have := HG2.out.base (B := w.heap.size) (by omega)
    have e1 : setR l ⟨rp, rk, rf, rt⟩ = joinR (cutR l ⟨rp, rk, rf, rt⟩) ⟨rp, rk, rf, rt⟩ := by simp only [setR]; rw [if_neg HK.out]
    rw [e1]
    exact this

/-- One round of Biter. -/
def biterS (a : Rn) (m : Int) (r : Rn) : Int := if bitesB r.p r.k r.f r.t a.p a.k a.f a.t = true ∧ (m < 0 ∨ r.p < m) then r.p else m
def biterR (l : List Rn) (a : Rn) : Int := l.foldl (biterS a) (-1)

set_option maxHeartbeats 4000000 in
set_option maxRecDepth 100000 in
theorem Biter_any (v : Value) (l : List Rn) (ap ak af at_ : Int) (w : World) (hv : Reads w v l) (hl : l.length < 1000) :
    Calls Try.prog 37 #[v, .agg #[.int .i64 ap, .int .i64 ak, .int .i64 af, .int .i64 at_]] w fun e w' => e = .returned (.int .i64 (biterR l ⟨ap, ak, af, at_⟩)) ∧ Below w.heap.size w w' := by
  rcases hv with ⟨rfl, rfl⟩ | ⟨g, cap, rfl, hgB, hrow⟩
  · go_enter Try.func37, Try.ntmps37
    go_wp2
    go_loop [5, 10] (fun s5 s10 => s5 = .int .i64 (-1) ∧ s10 = .int .i64 0) (fun _ _ => 0)
    case atStart => exact ⟨rfl, rfl⟩
    case round =>
      obtain ⟨rfl, rfl⟩ := hrel
      go_wp2
      go_ret
      exact ⟨rfl, (Below.refl _ _).alloc (Nat.le_refl _) _⟩
  · have HR : Hid _ := hrow
    have hg := hgB.lt
    clear hrow hgB
    go_enter Try.func37, Try.ntmps37
    go_wp2
    go_loopw [5, 10] (fun s5 s10 wr => ∃ i : Nat, s10 = .int .i64 i ∧ i ≤ l.length ∧ s5 = .int .i64 ((l.take i).foldl (biterS ⟨ap, ak, af, at_⟩) (-1)) ∧ Hid (Below (w.heap.size + 1) (w.alloc (.cells #[.int .i64 ap, .int .i64 ak, .int .i64 af, .int .i64 at_] 78)) wr)) (fun _ s10 _ => l.length - (intOf s10).toNat)
    case atStart => exact ⟨0, rfl, Nat.zero_le _, rfl, Below.refl _ _⟩
    case round =>
      obtain ⟨i, rfl, hi, rfl, HB⟩ := hrel
      by_cases hlt : i < l.length
      · obtain ⟨x, hx⟩ : ∃ x, l[i]? = some x := ⟨_, List.getElem?_eq_getElem hlt⟩
        have HX : Hid (l[i]? = some x) := hx
        have hF : (l.take (i + 1)).foldl (biterS ⟨ap, ak, af, at_⟩) (-1) = biterS ⟨ap, ak, af, at_⟩ ((l.take i).foldl (biterS ⟨ap, ak, af, at_⟩) (-1)) x := by
          rw [List.take_add_one, hx]; simp
        clear hx
        generalize (l.take i).foldl (biterS ⟨ap, ak, af, at_⟩) (-1) = m at hF ⊢
        have HF : Hid _ := hF
        clear hF
        obtain ⟨c0, c1, c2, c3⟩ := (RowAt.below (HR.out : RowAt w g l) ((Below.refl _ _).alloc (Nat.le_refl _) _) hg).below HB.out (by omega) i x HX.out
        obtain ⟨hcc, _⟩ := bcell (W := w.alloc (.cells #[.int .i64 ap, .int .i64 ak, .int .i64 af, .int .i64 at_] 78)) (by simpa using HB.out)
        have d0 := hcc w.heap.size 0 (by simp)
        have d1 := hcc w.heap.size 1 (by simp)
        have d2 := hcc w.heap.size 2 (by simp)
        have d3 := hcc w.heap.size 3 (by simp)
        clear hcc
        simp at d0 d1 d2 d3
        have hsz : w.heap.size + 1 ≤ wr.heap.size := by have := HB.out.size; simpa using this
        have hsz2 : w.heap.size < wr.heap.size := by omega
        have hgw : g < wr.heap.size := by omega
        cases hb : bitesB x.p x.k x.f x.t ap ak af at_
        · go_wp2_with (go_at_call 56; refine (bites_any _ _ _ _ _ _ _ _ _).mono ?_; rintro e wm ⟨rfl, hbm⟩; have HM : Hid _ := hbm; have m0 : wm.cell? ⟨wr.heap.size, 0, none⟩ = some (.int .i64 x.p) := ((bcell hbm).1 _ _ (by simp)).trans (by simp); have m1 : wm.cell? ⟨wr.heap.size, 1, none⟩ = some (.int .i64 x.k) := ((bcell hbm).1 _ _ (by simp)).trans (by simp); have m2 : wm.cell? ⟨wr.heap.size, 2, none⟩ = some (.int .i64 x.f) := ((bcell hbm).1 _ _ (by simp)).trans (by simp); have m3 : wm.cell? ⟨wr.heap.size, 3, none⟩ = some (.int .i64 x.t) := ((bcell hbm).1 _ _ (by simp)).trans (by simp); have hzm : wr.heap.size + 1 ≤ wm.heap.size := (by have := hbm.size; simpa using this); clear hbm)
          go_roundw
          case rel =>
            refine ⟨i + 1, by go_num, by omega, ?_, (HB.out.alloc (by omega) _).trans (HM.out.mono (by simp <;> omega))⟩
            rw [HF.out]; simp [biterS, hb]
          case measure => simp [intOf]; omega
        · by_cases hm0 : m < 0
          · go_wp2_with (go_at_call 56; refine (bites_any _ _ _ _ _ _ _ _ _).mono ?_; rintro e wm ⟨rfl, hbm⟩; have HM : Hid _ := hbm; have m0 : wm.cell? ⟨wr.heap.size, 0, none⟩ = some (.int .i64 x.p) := ((bcell hbm).1 _ _ (by simp)).trans (by simp); have m1 : wm.cell? ⟨wr.heap.size, 1, none⟩ = some (.int .i64 x.k) := ((bcell hbm).1 _ _ (by simp)).trans (by simp); have m2 : wm.cell? ⟨wr.heap.size, 2, none⟩ = some (.int .i64 x.f) := ((bcell hbm).1 _ _ (by simp)).trans (by simp); have m3 : wm.cell? ⟨wr.heap.size, 3, none⟩ = some (.int .i64 x.t) := ((bcell hbm).1 _ _ (by simp)).trans (by simp); have hzm : wr.heap.size + 1 ≤ wm.heap.size := (by have := hbm.size; simpa using this); clear hbm)
            go_roundw
            case rel =>
              refine ⟨i + 1, by go_num, by omega, ?_, (HB.out.alloc (by omega) _).trans (HM.out.mono (by simp <;> omega))⟩
              rw [HF.out]; simp [biterS, hb, hm0]
            case measure => simp [intOf]; omega
          · by_cases hm1 : x.p < m
            · go_wp2_with (go_at_call 56; refine (bites_any _ _ _ _ _ _ _ _ _).mono ?_; rintro e wm ⟨rfl, hbm⟩; have HM : Hid _ := hbm; have m0 : wm.cell? ⟨wr.heap.size, 0, none⟩ = some (.int .i64 x.p) := ((bcell hbm).1 _ _ (by simp)).trans (by simp); have m1 : wm.cell? ⟨wr.heap.size, 1, none⟩ = some (.int .i64 x.k) := ((bcell hbm).1 _ _ (by simp)).trans (by simp); have m2 : wm.cell? ⟨wr.heap.size, 2, none⟩ = some (.int .i64 x.f) := ((bcell hbm).1 _ _ (by simp)).trans (by simp); have m3 : wm.cell? ⟨wr.heap.size, 3, none⟩ = some (.int .i64 x.t) := ((bcell hbm).1 _ _ (by simp)).trans (by simp); have hzm : wr.heap.size + 1 ≤ wm.heap.size := (by have := hbm.size; simpa using this); clear hbm)
              go_roundw
              case rel =>
                refine ⟨i + 1, by go_num, by omega, ?_, (HB.out.alloc (by omega) _).trans (HM.out.mono (by simp <;> omega))⟩
                rw [HF.out]; simp [biterS, hb, hm1]
              case measure => simp [intOf]; omega
            · go_wp2_with (go_at_call 56; refine (bites_any _ _ _ _ _ _ _ _ _).mono ?_; rintro e wm ⟨rfl, hbm⟩; have HM : Hid _ := hbm; have m0 : wm.cell? ⟨wr.heap.size, 0, none⟩ = some (.int .i64 x.p) := ((bcell hbm).1 _ _ (by simp)).trans (by simp); have m1 : wm.cell? ⟨wr.heap.size, 1, none⟩ = some (.int .i64 x.k) := ((bcell hbm).1 _ _ (by simp)).trans (by simp); have m2 : wm.cell? ⟨wr.heap.size, 2, none⟩ = some (.int .i64 x.f) := ((bcell hbm).1 _ _ (by simp)).trans (by simp); have m3 : wm.cell? ⟨wr.heap.size, 3, none⟩ = some (.int .i64 x.t) := ((bcell hbm).1 _ _ (by simp)).trans (by simp); have hzm : wr.heap.size + 1 ≤ wm.heap.size := (by have := hbm.size; simpa using this); clear hbm)
              go_roundw
              case rel =>
                refine ⟨i + 1, by go_num, by omega, ?_, (HB.out.alloc (by omega) _).trans (HM.out.mono (by simp <;> omega))⟩
                rw [HF.out]; simp [biterS, hb]; omega
              case measure => simp [intOf]; omega
      · have ei : l.take i = l := List.take_of_length_le (by omega)
        rw [ei]
        go_wp2
        go_ret
        exact ⟨rfl, ((Below.refl _ _).alloc (Nat.le_refl _) _).trans (HB.out.mono (Nat.le_succ _))⟩
end Go.Proofs.Ytafgecmenadhdaa
