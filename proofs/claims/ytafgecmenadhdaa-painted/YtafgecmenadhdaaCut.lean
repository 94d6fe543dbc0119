/- Contracts of List.cut and List.join: the lists that they make, in new memory. -/
import Derived.Test.YtafgecmenadhdaaIns
namespace Go.Proofs.Ytafgecmenadhdaa
open Go.RowKit Go.Lib

/-- Block g is a row of runs. -/
def Blk (w : World) (g : Nat) : Prop := ∃ cur, w.heap[g]? = some (.cells cur 78 (0, 0))
theorem Blk.lt {w : World} {g : Nat} (h : Blk w g) : g < w.heap.size := by
  obtain ⟨cur, h⟩ := h
  exact (Array.getElem?_eq_some_iff.1 h).1
theorem Blk.of_block {w w' : World} {g : Nat} (h : Blk w g) (he : w'.heap[g]? = w.heap[g]?) : Blk w' g := by
  obtain ⟨cur, h⟩ := h
  exact ⟨cur, he.trans h⟩
/-- The value v reads as the runs l. -/
def Reads (w : World) (v : Value) (l : List Rn) : Prop := (v = .slice none 0 0 ∧ l = []) ∨ ∃ g cap, v = .slice (some ⟨g, 0, none⟩) l.length cap ∧ Blk w g ∧ RowAt w g l

theorem insert_sorted (base : Nat) (v : Value) (l : List Rn) (p k f t : Int) (w : World) (hown : w.ownsRow base 78 4 v l.length (flat l)) (hbase : base ≤ w.heap.size) (hl : l.length < 1000000) (hs : Srt l) :
    Calls Try.prog 72 #[v, .agg #[.int .i64 p, .int .i64 k, .int .i64 f, .int .i64 t]] w fun e w' => ∃ v', e = .returned v' ∧ w'.ownsRow base 78 4 v' (insR l ⟨p, k, f, t⟩).length (flat (insR l ⟨p, k, f, t⟩)) ∧ w.grownBy w' v.ownBlock := by
  obtain ⟨h1, h2⟩ := Srt.boundary l ⟨p, k, f, t⟩ hs
  rw [length_insR]
  exact insert_any base v l (posR l ⟨p, k, f, t⟩) ⟨p, k, f, t⟩ w hown hbase hl (posR_le _ _) h1 h2

/-- The value v is a sorted list of runs in the row that the call owns, from block base on. -/
structure Good (base : Nat) (W : World) (v : Value) (rest : List Rn) : Prop where
  own : W.ownsRow base 78 4 v rest.length (flat rest)
  le : base ≤ W.heap.size
  len : rest.length < 1000000
  srt : Srt rest
theorem Good.nil {base : Nat} {W : World} (h : base ≤ W.heap.size) : Good base W (.slice none 0 0) [] := ⟨World.ownsRow_nil _ _ _ _, h, by simp, List.Pairwise.nil⟩
theorem Good.alloc {base : Nat} {W : World} {v : Value} {rest : List Rn} (h : Good base W v rest) (o : Obj) : Good base (W.alloc o) v rest := ⟨h.own.alloc o, by have := h.le; simp; omega, h.len, h.srt⟩
theorem Good.below {base : Nat} {W W' : World} {v : Value} {rest : List Rn} (h : Good base W v rest) (hb : Below W.heap.size W W') : Good base W' v rest :=
  ⟨h.own.kept (gb_below hb none) (by cases hv : v.ownBlock <;> simp), by have := h.le; have := hb.size; omega, h.len, h.srt⟩
theorem Good.setCell {base : Nat} {W : World} {v : Value} {rest : List Rn} (h : Good base W v rest) {a : Addr} (ha : v.ownBlock ≠ some a.block) (u : Value) : Good base (W.setCell a u) v rest :=
  ⟨h.own.kept (row := some a.block) ⟨rfl, rfl, rfl, by simp, fun k _ hk => Below.heap_setCell _ _ _ _ (fun e => hk (by rw [e]))⟩ (Or.inr ha), by have := h.le; simpa using this, h.len, h.srt⟩
theorem Good.base {base B : Nat} {W : World} {v : Value} {rest : List Rn} (h : Good base W v rest) (hB : B ≤ base) : Good B W v rest := by
  refine ⟨⟨h.own.1, ?_⟩, by have := h.le; omega, h.len, h.srt⟩
  rcases h.own.2 with hn | ⟨g, cap, cur, hv, hg, rest⟩
  · exact Or.inl hn
  · exact Or.inr ⟨g, cap, cur, hv, by omega, rest⟩
theorem Good.lt {base : Nat} {W : World} {v : Value} {rest : List Rn} (h : Good base W v rest) {b : Nat} (hb : W.heap.size ≤ b) : v.ownBlock ≠ some b := fun e => by have := (h.own.lt b e).2; omega
theorem Good.ge {base : Nat} {W : World} {v : Value} {rest : List Rn} (h : Good base W v rest) {b : Nat} (hb : b < base) : v.ownBlock ≠ some b := fun e => by have := (h.own.lt b e).1; omega
/-- insert, by its contract: a good list with one run more; of the other blocks none has turned. -/
theorem Good.insert {base : Nat} {W : World} {v : Value} {rest : List Rn} (h : Good base W v rest) (hlen : rest.length < 999999) (p k f t : Int) :
    Calls Try.prog 72 #[v, .agg #[.int .i64 p, .int .i64 k, .int .i64 f, .int .i64 t]] W fun e w' => ∃ v', e = .returned v' ∧ Good base w' v' (insR rest ⟨p, k, f, t⟩) ∧ W.grownBy w' v.ownBlock := by
  refine (insert_sorted base v rest p k f t W h.own h.le h.len h.srt).mono ?_
  rintro e w' ⟨v', rfl, h1, h2⟩
  exact ⟨v', rfl, ⟨h1, Nat.le_trans h.le h2.size, by rw [length_insR]; omega, h.srt.ins _⟩, h2⟩
theorem gb_cell {W W' : World} {row : Option Nat} (h : W.grownBy W' row) {b : Nat} (hb : b < W.heap.size) (hne : row ≠ some b) (o : Nat) : W'.cell? ⟨b, o, none⟩ = W.cell? ⟨b, o, none⟩ :=
  World.cell?_of_block (w := W) (a := ⟨b, o, none⟩) (h.block b hb (fun e => hne e.symm))

theorem cutS_far {h x : Rn} {rest : List Rn} (hp : ¬ x.p = h.p) : cutS h rest x = insR rest x := by simp [cutS, hp]
theorem cutS_off {h x : Rn} {rest : List Rn} (hm : meetsB x.f x.t h.f h.t = false) : cutS h rest x = insR rest x := by simp [cutS, hm]

theorem cutS_both {h x : Rn} {rest : List Rn} (hp : x.p = h.p) (hm : meetsB x.f x.t h.f h.t = true) (a : x.f < h.f) (b : h.t < x.t) : cutS h rest x = insR (insR rest ⟨x.p, x.k, x.f, h.f - 1⟩) ⟨x.p, x.k, h.t + 1, x.t⟩ := by simp [cutS, hp, hm, a, b]
theorem cutS_left {h x : Rn} {rest : List Rn} (hp : x.p = h.p) (hm : meetsB x.f x.t h.f h.t = true) (a : x.f < h.f) (b : ¬ h.t < x.t) : cutS h rest x = insR rest ⟨x.p, x.k, x.f, h.f - 1⟩ := by simp [cutS, hp, hm, a, b]
theorem cutS_right {h x : Rn} {rest : List Rn} (hp : x.p = h.p) (hm : meetsB x.f x.t h.f h.t = true) (a : ¬ x.f < h.f) (b : h.t < x.t) : cutS h rest x = insR rest ⟨x.p, x.k, h.t + 1, x.t⟩ := by simp [cutS, hp, hm, a, b]
theorem cutS_none {h x : Rn} {rest : List Rn} (hp : x.p = h.p) (hm : meetsB x.f x.t h.f h.t = true) (a : ¬ x.f < h.f) (b : ¬ h.t < x.t) : cutS h rest x = rest := by simp [cutS, hp, hm, a, b]

set_option maxHeartbeats 4000000 in
set_option maxRecDepth 100000 in
theorem cut_any (v : Value) (l : List Rn) (hp hk hf ht : Int) (w : World) (hv : Reads w v l) (hl : l.length < 1000) (hf1 : -1000 ≤ hf ∧ hf ≤ 1000) (ht1 : -1000 ≤ ht ∧ ht ≤ 1000) :
    Calls Try.prog 57 #[v, .agg #[.int .i64 hp, .int .i64 hk, .int .i64 hf, .int .i64 ht]] w fun e w' => ∃ v', e = .returned v' ∧ Good w.heap.size w' v' (cutR l ⟨hp, hk, hf, ht⟩) ∧ Below w.heap.size w w' := by
  obtain ⟨hf1, hf2⟩ := hf1
  obtain ⟨ht1, ht2⟩ := ht1
  rcases hv with ⟨rfl, rfl⟩ | ⟨g, cap, rfl, hgB, hrow⟩
  · go_enter Try.func57, Try.ntmps57
    go_wp2
    go_loop [5, 10] (fun s5 s10 => s5 = .slice none 0 0 ∧ s10 = .int .i64 0) (fun _ _ => 0)
    case atStart => exact ⟨rfl, rfl⟩
    case round =>
      obtain ⟨rfl, rfl⟩ := hrel
      go_wp2
      go_ret
      exact ⟨_, rfl, Good.nil (by simp), (Below.refl _ _).alloc (Nat.le_refl _) _⟩
  · have HR : Hid _ := hrow
    have hg := hgB.lt
    clear hrow hgB
    go_enter Try.func57, Try.ntmps57
    go_wp2
    go_loopw [5, 10] (fun s5 s10 wr => ∃ i : Nat, s10 = .int .i64 i ∧ i ≤ l.length ∧ Hid (Good (w.heap.size + 1) wr s5 ((l.take i).foldl (cutS ⟨hp, hk, hf, ht⟩) [])) ∧ Hid (Below (w.heap.size + 1) (w.alloc (.cells #[.int .i64 hp, .int .i64 hk, .int .i64 hf, .int .i64 ht] 78)) wr)) (fun _ s10 _ => l.length - (intOf s10).toNat)
    case atStart => exact ⟨0, rfl, Nat.zero_le _, Good.nil (by simp), Below.refl _ _⟩
    case round =>
      obtain ⟨i, rfl, hi, HG, HB⟩ := hrel
      by_cases hlt : i < l.length
      · obtain ⟨x, hx⟩ : ∃ x, l[i]? = some x := ⟨_, List.getElem?_eq_getElem hlt⟩
        have HX : Hid (l[i]? = some x) := hx
        have hF : (l.take (i + 1)).foldl (cutS ⟨hp, hk, hf, ht⟩) [] = cutS ⟨hp, hk, hf, ht⟩ ((l.take i).foldl (cutS ⟨hp, hk, hf, ht⟩) []) x := by
          rw [List.take_add_one, hx]; simp
        clear hx
        have hlen : ((l.take i).foldl (cutS ⟨hp, hk, hf, ht⟩) []).length < 5000 := by
          have := length_cutR (l.take i) ⟨hp, hk, hf, ht⟩
          rw [List.length_take] at this
          unfold cutR at this
          omega
        obtain ⟨rest, hrest⟩ : ∃ rest, rest = (l.take i).foldl (cutS ⟨hp, hk, hf, ht⟩) [] := ⟨_, rfl⟩
        rw [← hrest] at hF hlen HG
        have HF : Hid _ := hF
        clear hrest hF
        obtain ⟨c0, c1, c2, c3⟩ := (RowAt.below (HR.out : RowAt w g l) ((Below.refl _ _).alloc (Nat.le_refl _) _) hg).below HB.out (by omega) i x HX.out
        obtain ⟨hcc, _⟩ := bcell (W := w.alloc (.cells #[.int .i64 hp, .int .i64 hk, .int .i64 hf, .int .i64 ht] 78)) (by simpa using HB.out)
        have d0 := hcc w.heap.size 0 (by simp)
        have d1 := hcc w.heap.size 1 (by simp)
        have d2 := hcc w.heap.size 2 (by simp)
        have d3 := hcc w.heap.size 3 (by simp)
        clear hcc
        simp at d0 d1 d2 d3
        have hsz : w.heap.size + 1 ≤ wr.heap.size := by have := HB.out.size; simpa using this
        have hsz2 : w.heap.size < wr.heap.size := by omega
        have hgw : g < wr.heap.size := by omega
        by_cases hpp : x.p = hp
        · have hpb : (x.p != hp) = false := by simpa using hpp
          have HP : Hid _ := hpp
          clear hpp
          cases hm : meetsB x.f x.t hf ht
          · go_wp2_with (first
              | (go_at_call 70; refine (meets_any _ _ _ _ _ _ _ _ _).mono ?_; rintro e wm ⟨rfl, hbm⟩; have HM : Hid _ := hbm; have m0 : wm.cell? ⟨wr.heap.size, 0, none⟩ = some (.int .i64 x.p) := ((bcell hbm).1 _ _ (by simp)).trans (by simp [*]); have m1 : wm.cell? ⟨wr.heap.size, 1, none⟩ = some (.int .i64 x.k) := ((bcell hbm).1 _ _ (by simp)).trans (by simp [*]); have m2 : wm.cell? ⟨wr.heap.size, 2, none⟩ = some (.int .i64 x.f) := ((bcell hbm).1 _ _ (by simp)).trans (by simp [*]); have m3 : wm.cell? ⟨wr.heap.size, 3, none⟩ = some (.int .i64 x.t) := ((bcell hbm).1 _ _ (by simp)).trans (by simp [*]); have n0 : wm.cell? ⟨w.heap.size, 0, none⟩ = some (.int .i64 hp) := ((bcell hbm).1 _ _ (by simp <;> omega)).trans ((World.cell?_alloc_past (w := wr) _ w.heap.size 0 hsz2).trans d0); have n1 : wm.cell? ⟨w.heap.size, 1, none⟩ = some (.int .i64 hk) := ((bcell hbm).1 _ _ (by simp <;> omega)).trans ((World.cell?_alloc_past (w := wr) _ w.heap.size 1 hsz2).trans d1); have n2 : wm.cell? ⟨w.heap.size, 2, none⟩ = some (.int .i64 hf) := ((bcell hbm).1 _ _ (by simp <;> omega)).trans ((World.cell?_alloc_past (w := wr) _ w.heap.size 2 hsz2).trans d2); have n3 : wm.cell? ⟨w.heap.size, 3, none⟩ = some (.int .i64 ht) := ((bcell hbm).1 _ _ (by simp <;> omega)).trans ((World.cell?_alloc_past (w := wr) _ w.heap.size 3 hsz2).trans d3); have hzm : wr.heap.size + 1 ≤ wm.heap.size := (by have := hbm.size; simpa using this); have hzw : wr.heap.size < wm.heap.size := (by omega); have hzv : w.heap.size < wm.heap.size := (by omega); clear hbm)
              | (go_at_call 72; refine (((HG.out.alloc _).below HM.out).insert (by omega) _ _ _ _).mono ?_; rintro e w' ⟨v', rfl, hG', hgb⟩; have HG1 : Hid _ := hG'; have HB1 : Hid _ := hgb; clear hG' hgb))
            go_roundw
            case rel =>
              refine ⟨i + 1, by go_num, by omega, ?_, ?_⟩
              · show Good _ _ _ _
                rw [HF.out, cutS_off hm]; exact HG1.out
              · exact ((HB.out.alloc (by omega) _).trans (HM.out.mono (by simp <;> omega))).trans (below_gb HB1.out (by omega) (fun k hk => (HG.out.own.lt k hk).1))
            case measure => simp [intOf]; omega
          · by_cases hlf : x.f < hf
            · by_cases hrt : ht < x.t
              · go_wp2_with (first
                  | (go_at_call 70; refine (meets_any _ _ _ _ _ _ _ _ _).mono ?_; rintro e wm ⟨rfl, hbm⟩; have HM : Hid _ := hbm; have m0 : wm.cell? ⟨wr.heap.size, 0, none⟩ = some (.int .i64 x.p) := ((bcell hbm).1 _ _ (by simp)).trans (by simp [*]); have m1 : wm.cell? ⟨wr.heap.size, 1, none⟩ = some (.int .i64 x.k) := ((bcell hbm).1 _ _ (by simp)).trans (by simp [*]); have m2 : wm.cell? ⟨wr.heap.size, 2, none⟩ = some (.int .i64 x.f) := ((bcell hbm).1 _ _ (by simp)).trans (by simp [*]); have m3 : wm.cell? ⟨wr.heap.size, 3, none⟩ = some (.int .i64 x.t) := ((bcell hbm).1 _ _ (by simp)).trans (by simp [*]); have n0 : wm.cell? ⟨w.heap.size, 0, none⟩ = some (.int .i64 hp) := ((bcell hbm).1 _ _ (by simp <;> omega)).trans ((World.cell?_alloc_past (w := wr) _ w.heap.size 0 hsz2).trans d0); have n1 : wm.cell? ⟨w.heap.size, 1, none⟩ = some (.int .i64 hk) := ((bcell hbm).1 _ _ (by simp <;> omega)).trans ((World.cell?_alloc_past (w := wr) _ w.heap.size 1 hsz2).trans d1); have n2 : wm.cell? ⟨w.heap.size, 2, none⟩ = some (.int .i64 hf) := ((bcell hbm).1 _ _ (by simp <;> omega)).trans ((World.cell?_alloc_past (w := wr) _ w.heap.size 2 hsz2).trans d2); have n3 : wm.cell? ⟨w.heap.size, 3, none⟩ = some (.int .i64 ht) := ((bcell hbm).1 _ _ (by simp <;> omega)).trans ((World.cell?_alloc_past (w := wr) _ w.heap.size 3 hsz2).trans d3); have hzm : wr.heap.size + 1 ≤ wm.heap.size := (by have := hbm.size; simpa using this); have hzw : wr.heap.size < wm.heap.size := (by omega); have hzv : w.heap.size < wm.heap.size := (by omega); clear hbm)
                  | (go_at_call_of 72 (u5); refine (((HG.out.alloc _).below HM.out).insert (by omega) _ _ _ _).mono ?_; rintro e w' ⟨v', rfl, hG', hgb⟩; have HG1 : Hid _ := hG'; have HB1 : Hid _ := hgb; have p0 : w'.cell? ⟨wr.heap.size, 0, none⟩ = some (.int .i64 x.p) := (gb_cell hgb hzw (HG.out.lt (Nat.le_refl _)) _).trans (by assumption); have p1 : w'.cell? ⟨wr.heap.size, 1, none⟩ = some (.int .i64 x.k) := (gb_cell hgb hzw (HG.out.lt (Nat.le_refl _)) _).trans (by assumption); have p2 : w'.cell? ⟨wr.heap.size, 2, none⟩ = some (.int .i64 x.f) := (gb_cell hgb hzw (HG.out.lt (Nat.le_refl _)) _).trans (by assumption); have p3 : w'.cell? ⟨wr.heap.size, 3, none⟩ = some (.int .i64 x.t) := (gb_cell hgb hzw (HG.out.lt (Nat.le_refl _)) _).trans (by assumption); have q0 : w'.cell? ⟨w.heap.size, 0, none⟩ = some (.int .i64 hp) := (gb_cell hgb hzv (HG.out.ge (Nat.lt_succ_self _)) _).trans (by assumption); have q1 : w'.cell? ⟨w.heap.size, 1, none⟩ = some (.int .i64 hk) := (gb_cell hgb hzv (HG.out.ge (Nat.lt_succ_self _)) _).trans (by assumption); have q2 : w'.cell? ⟨w.heap.size, 2, none⟩ = some (.int .i64 hf) := (gb_cell hgb hzv (HG.out.ge (Nat.lt_succ_self _)) _).trans (by assumption); have q3 : w'.cell? ⟨w.heap.size, 3, none⟩ = some (.int .i64 ht) := (gb_cell hgb hzv (HG.out.ge (Nat.lt_succ_self _)) _).trans (by assumption); clear hG' hgb)
                  | (go_at_call 72; refine (HG1.out.insert (by rw [length_insR]; omega) _ _ _ _).mono ?_; rintro e w2 ⟨v2, rfl, hG2, hgb2⟩; have HG2 : Hid _ := hG2; have HB2 : Hid _ := hgb2; clear hG2 hgb2))
                go_roundw
                case rel =>
                  refine ⟨i + 1, by go_num, by omega, ?_, ?_⟩
                  · show Good _ _ _ _
                    rw [HF.out, cutS_both (h := ⟨hp, hk, hf, ht⟩) (x := x) HP.out hm hlf hrt]; exact HG2.out
                  · exact (((HB.out.alloc (by omega) _).trans (HM.out.mono (by simp <;> omega))).trans (below_gb HB1.out (by omega) (fun k hk => (HG.out.own.lt k hk).1))).trans (below_gb HB2.out (by have := HB1.out.size; omega) (fun k hk => (HG1.out.own.lt k hk).1))
                case measure => simp [intOf]; omega
              · go_wp2_with (first
                  | (go_at_call 70; refine (meets_any _ _ _ _ _ _ _ _ _).mono ?_; rintro e wm ⟨rfl, hbm⟩; have HM : Hid _ := hbm; have m0 : wm.cell? ⟨wr.heap.size, 0, none⟩ = some (.int .i64 x.p) := ((bcell hbm).1 _ _ (by simp)).trans (by simp [*]); have m1 : wm.cell? ⟨wr.heap.size, 1, none⟩ = some (.int .i64 x.k) := ((bcell hbm).1 _ _ (by simp)).trans (by simp [*]); have m2 : wm.cell? ⟨wr.heap.size, 2, none⟩ = some (.int .i64 x.f) := ((bcell hbm).1 _ _ (by simp)).trans (by simp [*]); have m3 : wm.cell? ⟨wr.heap.size, 3, none⟩ = some (.int .i64 x.t) := ((bcell hbm).1 _ _ (by simp)).trans (by simp [*]); have n0 : wm.cell? ⟨w.heap.size, 0, none⟩ = some (.int .i64 hp) := ((bcell hbm).1 _ _ (by simp <;> omega)).trans ((World.cell?_alloc_past (w := wr) _ w.heap.size 0 hsz2).trans d0); have n1 : wm.cell? ⟨w.heap.size, 1, none⟩ = some (.int .i64 hk) := ((bcell hbm).1 _ _ (by simp <;> omega)).trans ((World.cell?_alloc_past (w := wr) _ w.heap.size 1 hsz2).trans d1); have n2 : wm.cell? ⟨w.heap.size, 2, none⟩ = some (.int .i64 hf) := ((bcell hbm).1 _ _ (by simp <;> omega)).trans ((World.cell?_alloc_past (w := wr) _ w.heap.size 2 hsz2).trans d2); have n3 : wm.cell? ⟨w.heap.size, 3, none⟩ = some (.int .i64 ht) := ((bcell hbm).1 _ _ (by simp <;> omega)).trans ((World.cell?_alloc_past (w := wr) _ w.heap.size 3 hsz2).trans d3); have hzm : wr.heap.size + 1 ≤ wm.heap.size := (by have := hbm.size; simpa using this); have hzw : wr.heap.size < wm.heap.size := (by omega); have hzv : w.heap.size < wm.heap.size := (by omega); clear hbm)
                  | (go_at_call_of 72 (u5); refine (((HG.out.alloc _).below HM.out).insert (by omega) _ _ _ _).mono ?_; rintro e w' ⟨v', rfl, hG', hgb⟩; have HG1 : Hid _ := hG'; have HB1 : Hid _ := hgb; have p0 : w'.cell? ⟨wr.heap.size, 0, none⟩ = some (.int .i64 x.p) := (gb_cell hgb hzw (HG.out.lt (Nat.le_refl _)) _).trans (by assumption); have p1 : w'.cell? ⟨wr.heap.size, 1, none⟩ = some (.int .i64 x.k) := (gb_cell hgb hzw (HG.out.lt (Nat.le_refl _)) _).trans (by assumption); have p2 : w'.cell? ⟨wr.heap.size, 2, none⟩ = some (.int .i64 x.f) := (gb_cell hgb hzw (HG.out.lt (Nat.le_refl _)) _).trans (by assumption); have p3 : w'.cell? ⟨wr.heap.size, 3, none⟩ = some (.int .i64 x.t) := (gb_cell hgb hzw (HG.out.lt (Nat.le_refl _)) _).trans (by assumption); have q0 : w'.cell? ⟨w.heap.size, 0, none⟩ = some (.int .i64 hp) := (gb_cell hgb hzv (HG.out.ge (Nat.lt_succ_self _)) _).trans (by assumption); have q1 : w'.cell? ⟨w.heap.size, 1, none⟩ = some (.int .i64 hk) := (gb_cell hgb hzv (HG.out.ge (Nat.lt_succ_self _)) _).trans (by assumption); have q2 : w'.cell? ⟨w.heap.size, 2, none⟩ = some (.int .i64 hf) := (gb_cell hgb hzv (HG.out.ge (Nat.lt_succ_self _)) _).trans (by assumption); have q3 : w'.cell? ⟨w.heap.size, 3, none⟩ = some (.int .i64 ht) := (gb_cell hgb hzv (HG.out.ge (Nat.lt_succ_self _)) _).trans (by assumption); clear hG' hgb))
                go_roundw
                case rel =>
                  refine ⟨i + 1, by go_num, by omega, ?_, ?_⟩
                  · show Good _ _ _ _
                    rw [HF.out, cutS_left (h := ⟨hp, hk, hf, ht⟩) (x := x) HP.out hm hlf (Int.not_lt.2 hrt)]; exact HG1.out
                  · exact ((HB.out.alloc (by omega) _).trans (HM.out.mono (by simp <;> omega))).trans (below_gb HB1.out (by omega) (fun k hk => (HG.out.own.lt k hk).1))
                case measure => simp [intOf]; omega
            · by_cases hrt : ht < x.t
              · go_wp2_with (first
                  | (go_at_call 70; refine (meets_any _ _ _ _ _ _ _ _ _).mono ?_; rintro e wm ⟨rfl, hbm⟩; have HM : Hid _ := hbm; have m0 : wm.cell? ⟨wr.heap.size, 0, none⟩ = some (.int .i64 x.p) := ((bcell hbm).1 _ _ (by simp)).trans (by simp [*]); have m1 : wm.cell? ⟨wr.heap.size, 1, none⟩ = some (.int .i64 x.k) := ((bcell hbm).1 _ _ (by simp)).trans (by simp [*]); have m2 : wm.cell? ⟨wr.heap.size, 2, none⟩ = some (.int .i64 x.f) := ((bcell hbm).1 _ _ (by simp)).trans (by simp [*]); have m3 : wm.cell? ⟨wr.heap.size, 3, none⟩ = some (.int .i64 x.t) := ((bcell hbm).1 _ _ (by simp)).trans (by simp [*]); have n0 : wm.cell? ⟨w.heap.size, 0, none⟩ = some (.int .i64 hp) := ((bcell hbm).1 _ _ (by simp <;> omega)).trans ((World.cell?_alloc_past (w := wr) _ w.heap.size 0 hsz2).trans d0); have n1 : wm.cell? ⟨w.heap.size, 1, none⟩ = some (.int .i64 hk) := ((bcell hbm).1 _ _ (by simp <;> omega)).trans ((World.cell?_alloc_past (w := wr) _ w.heap.size 1 hsz2).trans d1); have n2 : wm.cell? ⟨w.heap.size, 2, none⟩ = some (.int .i64 hf) := ((bcell hbm).1 _ _ (by simp <;> omega)).trans ((World.cell?_alloc_past (w := wr) _ w.heap.size 2 hsz2).trans d2); have n3 : wm.cell? ⟨w.heap.size, 3, none⟩ = some (.int .i64 ht) := ((bcell hbm).1 _ _ (by simp <;> omega)).trans ((World.cell?_alloc_past (w := wr) _ w.heap.size 3 hsz2).trans d3); have hzm : wr.heap.size + 1 ≤ wm.heap.size := (by have := hbm.size; simpa using this); have hzw : wr.heap.size < wm.heap.size := (by omega); have hzv : w.heap.size < wm.heap.size := (by omega); clear hbm)
                  | (go_at_call 72; refine (((HG.out.alloc _).below HM.out).insert (by omega) _ _ _ _).mono ?_; rintro e w' ⟨v', rfl, hG', hgb⟩; have HG1 : Hid _ := hG'; have HB1 : Hid _ := hgb; clear hG' hgb))
                go_roundw
                case rel =>
                  refine ⟨i + 1, by go_num, by omega, ?_, ?_⟩
                  · show Good _ _ _ _
                    rw [HF.out, cutS_right (h := ⟨hp, hk, hf, ht⟩) (x := x) HP.out hm (Int.not_lt.2 hlf) hrt]; exact HG1.out
                  · exact ((HB.out.alloc (by omega) _).trans (HM.out.mono (by simp <;> omega))).trans (below_gb HB1.out (by omega) (fun k hk => (HG.out.own.lt k hk).1))
                case measure => simp [intOf]; omega
              · go_wp2_with (go_at_call 70; refine (meets_any _ _ _ _ _ _ _ _ _).mono ?_; rintro e wm ⟨rfl, hbm⟩; have HM : Hid _ := hbm; have m0 : wm.cell? ⟨wr.heap.size, 0, none⟩ = some (.int .i64 x.p) := ((bcell hbm).1 _ _ (by simp)).trans (by simp [*]); have m1 : wm.cell? ⟨wr.heap.size, 1, none⟩ = some (.int .i64 x.k) := ((bcell hbm).1 _ _ (by simp)).trans (by simp [*]); have m2 : wm.cell? ⟨wr.heap.size, 2, none⟩ = some (.int .i64 x.f) := ((bcell hbm).1 _ _ (by simp)).trans (by simp [*]); have m3 : wm.cell? ⟨wr.heap.size, 3, none⟩ = some (.int .i64 x.t) := ((bcell hbm).1 _ _ (by simp)).trans (by simp [*]); have n0 : wm.cell? ⟨w.heap.size, 0, none⟩ = some (.int .i64 hp) := ((bcell hbm).1 _ _ (by simp <;> omega)).trans ((World.cell?_alloc_past (w := wr) _ w.heap.size 0 hsz2).trans d0); have n1 : wm.cell? ⟨w.heap.size, 1, none⟩ = some (.int .i64 hk) := ((bcell hbm).1 _ _ (by simp <;> omega)).trans ((World.cell?_alloc_past (w := wr) _ w.heap.size 1 hsz2).trans d1); have n2 : wm.cell? ⟨w.heap.size, 2, none⟩ = some (.int .i64 hf) := ((bcell hbm).1 _ _ (by simp <;> omega)).trans ((World.cell?_alloc_past (w := wr) _ w.heap.size 2 hsz2).trans d2); have n3 : wm.cell? ⟨w.heap.size, 3, none⟩ = some (.int .i64 ht) := ((bcell hbm).1 _ _ (by simp <;> omega)).trans ((World.cell?_alloc_past (w := wr) _ w.heap.size 3 hsz2).trans d3); have hzm : wr.heap.size + 1 ≤ wm.heap.size := (by have := hbm.size; simpa using this); have hzw : wr.heap.size < wm.heap.size := (by omega); have hzv : w.heap.size < wm.heap.size := (by omega); clear hbm)
                go_roundw
                case rel =>
                  refine ⟨i + 1, by go_num, by omega, ?_, ?_⟩
                  · show Good _ _ _ _
                    rw [HF.out, cutS_none (h := ⟨hp, hk, hf, ht⟩) (x := x) HP.out hm (Int.not_lt.2 hlf) (Int.not_lt.2 hrt)]; exact (HG.out.alloc _).below HM.out
                  · exact (HB.out.alloc (by omega) _).trans (HM.out.mono (by simp <;> omega))
                case measure => simp [intOf]; omega
        · have hpb : (x.p != hp) = true := by simpa using hpp
          have HP : Hid _ := hpp
          clear hpp
          go_wp2_with (go_at_call 72; refine ((HG.out.alloc _).insert (by omega) _ _ _ _).mono ?_; rintro e w' ⟨v', rfl, hG', hgb⟩)
          go_roundw
          case rel =>
            refine ⟨i + 1, by go_num, by omega, ?_, ?_⟩
            · show Good _ _ _ _
              rw [HF.out, cutS_far HP.out]; exact hG'
            · exact (HB.out.alloc (by omega) _).trans (below_gb hgb (by simp <;> omega) (fun k hk => (HG.out.own.lt k hk).1))
          case measure => simp [intOf]; omega
      · go_wp2
        go_ret
        have ei : l.take i = l := List.take_of_length_le (by omega)
        refine ⟨_, rfl, ?_, ((Below.refl _ _).alloc (Nat.le_refl _) _).trans (HB.out.mono (Nat.le_succ _))⟩
        have := HG.out
        rw [ei] at this
        exact this.base (Nat.le_succ _)
end Go.Proofs.Ytafgecmenadhdaa
