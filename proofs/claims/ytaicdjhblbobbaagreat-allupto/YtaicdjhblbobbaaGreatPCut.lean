/- Contracts of List.cut and List.join: the lists that they make, in new memory. -/
import Derived.Test.YtaicdjhblbobbaaGreatPInsert
import Derived.Test.YtaicdjhblbobbaaGreatPPure
import Derived.LaidEqlPtr
namespace Go.Proofs.YtaicdjhblbobbaaGreat
open Go.RowKit Go.Lib

/-- Block g is a row of runs. -/
def Blk (w : World) (g : Nat) : Prop := ∃ cur, w.heap[g]? = some (.cells cur 129 (0, 0))
theorem Blk.lt {w : World} {g : Nat} (h : Blk w g) : g < w.heap.size := by
  obtain ⟨cur, h⟩ := h
  exact (Array.getElem?_eq_some_iff.1 h).1
theorem Blk.of_block {w w' : World} {g : Nat} (h : Blk w g) (he : w'.heap[g]? = w.heap[g]?) : Blk w' g := by
  obtain ⟨cur, h⟩ := h
  exact ⟨cur, he.trans h⟩
/-- The value v reads as the runs l. -/
def Reads (w : World) (v : Value) (l : List Rn) : Prop := (v = .slice none 0 0 ∧ l = []) ∨ ∃ g cap, v = .slice (some ⟨g, 0, none⟩) l.length cap ∧ Blk w g ∧ RowAt w g l

theorem insert_sorted (base : Nat) (v : Value) (l : List Rn) (p k f t : Int) (w : World) (hown : w.ownsRow base 129 4 v l.length (flat l)) (hbase : base ≤ w.heap.size) (hl : l.length < 1000000) (hs : Srt l) :
    Calls Tryz.prog 163 #[v, .agg #[.int .i64 p, .int .i64 k, .int .i64 f, .int .i64 t]] w fun e w' => ∃ v', e = .returned v' ∧ w'.ownsRow base 129 4 v' (insR l ⟨p, k, f, t⟩).length (flat (insR l ⟨p, k, f, t⟩)) ∧ w.grownBy w' v.ownBlock := by
  obtain ⟨h1, h2⟩ := Srt.boundary l ⟨p, k, f, t⟩ hs
  rw [length_insR]
  exact insert_any base v l (posR l ⟨p, k, f, t⟩) ⟨p, k, f, t⟩ w hown hbase hl (posR_le _ _) h1 h2

/-- The value v is a sorted list of runs in the row that the call owns, from block base on. -/
structure Good (base : Nat) (W : World) (v : Value) (rest : List Rn) : Prop where
  own : W.ownsRow base 129 4 v rest.length (flat rest)
  le : base ≤ W.heap.size
  len : rest.length < 1000000
  srt : Srt rest
theorem Good.nil {base : Nat} {W : World} (h : base ≤ W.heap.size) : Good base W (.slice none 0 0) [] := ⟨World.ownsRow_nil _ _ _ _, h, by simp, List.Pairwise.nil⟩
theorem Good.alloc {base : Nat} {W : World} {v : Value} {rest : List Rn} (h : Good base W v rest) (o : Obj) : Good base (W.alloc o) v rest := ⟨h.own.alloc o, by have := h.le; simp; omega, h.len, h.srt⟩
theorem Good.below {base : Nat} {W W' : World} {v : Value} {rest : List Rn} (h : Good base W v rest) (hb : Below W.heap.size W W') : Good base W' v rest :=
  ⟨h.own.kept (gb_below hb none) (by cases hv : v.ownBlock <;> simp), by have := h.le; have := hb.size; omega, h.len, h.srt⟩
theorem Good.setCell {base : Nat} {W : World} {v : Value} {rest : List Rn} (h : Good base W v rest) {a : Addr} (ha : v.ownBlock ≠ some a.block) (u : Value) : Good base (W.setCell a u) v rest :=
  ⟨h.own.kept (row := some a.block) ⟨rfl, rfl, rfl, by simp, fun k _ hk => Below.heap_setCell _ _ _ _ (fun e => hk (by rw [e]))⟩ (Or.inr ha), by have := h.le; simpa using this, h.len, h.srt⟩
theorem Good.base {base B : Nat} {W : World} {v : Value} {rest : List Rn} (h : Good base W v rest) (hB : B ≤ base) : Good B W v rest := by
  refine ⟨⟨h.own.1, ?_⟩, by have := h.le; omega, h.len, h.srt⟩
  rcases h.own.2 with hn | ⟨g, cap, cur, hv, hg, rest⟩
  · exact Or.inl hn
  · exact Or.inr ⟨g, cap, cur, hv, by omega, rest⟩
theorem Good.lt {base : Nat} {W : World} {v : Value} {rest : List Rn} (h : Good base W v rest) {b : Nat} (hb : W.heap.size ≤ b) : v.ownBlock ≠ some b := fun e => by have := (h.own.lt b e).2; omega
theorem Good.ge {base : Nat} {W : World} {v : Value} {rest : List Rn} (h : Good base W v rest) {b : Nat} (hb : b < base) : v.ownBlock ≠ some b := fun e => by have := (h.own.lt b e).1; omega
/-- insert, by its contract: a good list with one run more; of the other blocks none has turned. -/
theorem Good.insert {base : Nat} {W : World} {v : Value} {rest : List Rn} (h : Good base W v rest) (hlen : rest.length < 999999) (p k f t : Int) :
    Calls Tryz.prog 163 #[v, .agg #[.int .i64 p, .int .i64 k, .int .i64 f, .int .i64 t]] W fun e w' => ∃ v', e = .returned v' ∧ Good base w' v' (insR rest ⟨p, k, f, t⟩) ∧ W.grownBy w' v.ownBlock := by
  refine (insert_sorted base v rest p k f t W h.own h.le h.len h.srt).mono ?_
  rintro e w' ⟨v', rfl, h1, h2⟩
  exact ⟨v', rfl, ⟨h1, Nat.le_trans h.le h2.size, by rw [length_insR]; omega, h.srt.ins _⟩, h2⟩
theorem gb_cell {W W' : World} {row : Option Nat} (h : W.grownBy W' row) {b : Nat} (hb : b < W.heap.size) (hne : row ≠ some b) (o : Nat) : W'.cell? ⟨b, o, none⟩ = W.cell? ⟨b, o, none⟩ :=
  World.cell?_of_block (w := W) (a := ⟨b, o, none⟩) (h.block b hb (fun e => hne e.symm))

theorem cutS_far {h x : Rn} {rest : List Rn} (hp : ¬ x.p = h.p) : cutS h rest x = insR rest x := by simp [cutS, hp]
theorem cutS_off {h x : Rn} {rest : List Rn} (hm : meetsB x.f x.t h.f h.t = false) : cutS h rest x = insR rest x := by simp [cutS, hm]

theorem cutS_both {h x : Rn} {rest : List Rn} (hp : x.p = h.p) (hm : meetsB x.f x.t h.f h.t = true) (a : x.f < h.f) (b : h.t < x.t) : cutS h rest x = insR (insR rest ⟨x.p, x.k, x.f, h.f - 1⟩) ⟨x.p, x.k, h.t + 1, x.t⟩ := by simp [cutS, hp, hm, a, b]
theorem cutS_left {h x : Rn} {rest : List Rn} (hp : x.p = h.p) (hm : meetsB x.f x.t h.f h.t = true) (a : x.f < h.f) (b : ¬ h.t < x.t) : cutS h rest x = insR rest ⟨x.p, x.k, x.f, h.f - 1⟩ := by simp [cutS, hp, hm, a, b]
theorem cutS_right {h x : Rn} {rest : List Rn} (hp : x.p = h.p) (hm : meetsB x.f x.t h.f h.t = true) (a : ¬ x.f < h.f) (b : h.t < x.t) : cutS h rest x = insR rest ⟨x.p, x.k, h.t + 1, x.t⟩ := by simp [cutS, hp, hm, a, b]
theorem cutS_none {h x : Rn} {rest : List Rn} (hp : x.p = h.p) (hm : meetsB x.f x.t h.f h.t = true) (a : ¬ x.f < h.f) (b : ¬ h.t < x.t) : cutS h rest x = rest := by simp [cutS, hp, hm, a, b]

set_option maxHeartbeats 4000000 in
set_option maxRecDepth 100000 in
theorem cut_any (v : Value) (l : List Rn) (hp hk hf ht : Int) (w : World) (hv : Reads w v l) (hl : l.length < 1000) (hf1 : -1000 ≤ hf ∧ hf ≤ 1000) (ht1 : -1000 ≤ ht ∧ ht ≤ 1000) :
    Calls Tryz.prog 126 #[v, .agg #[.int .i64 hp, .int .i64 hk, .int .i64 hf, .int .i64 ht]] w fun e w' => ∃ v', e = .returned v' ∧ Good w.heap.size w' v' (cutR l ⟨hp, hk, hf, ht⟩) ∧ Below w.heap.size w w' := by
  obtain ⟨hf1, hf2⟩ := hf1
  obtain ⟨ht1, ht2⟩ := ht1
  rcases hv with ⟨rfl, rfl⟩ | ⟨g, cap, rfl, hgB, hrow⟩
  · go_enter Tryz.func126, Tryz.ntmps126
    go_wp2
    go_loop [5, 10] (fun s5 s10 => s5 = .slice none 0 0 ∧ s10 = .int .i64 0) (fun _ _ => 0)
    case atStart => exact ⟨rfl, rfl⟩
    case round =>
      obtain ⟨rfl, rfl⟩ := hrel
      go_wp2
      go_ret
      exact ⟨_, rfl, Good.nil (by simp), (Below.refl _ _).alloc (Nat.le_refl _) _⟩
  · have HR : Hid _ := hrow
    have hg := hgB.lt
    clear hrow hgB
    go_enter Tryz.func126, Tryz.ntmps126
    go_wp2
    go_loopw [5, 10] (fun s5 s10 wr => ∃ i : Nat, s10 = .int .i64 i ∧ i ≤ l.length ∧ Hid (Good (w.heap.size + 1) wr s5 ((l.take i).foldl (cutS ⟨hp, hk, hf, ht⟩) [])) ∧ Hid (Below (w.heap.size + 1) (w.alloc (.cells #[.int .i64 hp, .int .i64 hk, .int .i64 hf, .int .i64 ht] 129)) wr)) (fun _ s10 _ => l.length - (intOf s10).toNat)
    case atStart => exact ⟨0, rfl, Nat.zero_le _, Good.nil (by simp), Below.refl _ _⟩
    case round =>
      obtain ⟨i, rfl, hi, HG, HB⟩ := hrel
      by_cases hlt : i < l.length
      · obtain ⟨x, hx⟩ : ∃ x, l[i]? = some x := ⟨_, List.getElem?_eq_getElem hlt⟩
        have HX : Hid (l[i]? = some x) := hx
        have hF : (l.take (i + 1)).foldl (cutS ⟨hp, hk, hf, ht⟩) [] = cutS ⟨hp, hk, hf, ht⟩ ((l.take i).foldl (cutS ⟨hp, hk, hf, ht⟩) []) x := by
          rw [List.take_add_one, hx]; simp
        clear hx
        have hlen : ((l.take i).foldl (cutS ⟨hp, hk, hf, ht⟩) []).length < 5000 := by
          have := length_cutR (l.take i) ⟨hp, hk, hf, ht⟩
          rw [List.length_take] at this
          unfold cutR at this
          omega
        obtain ⟨rest, hrest⟩ : ∃ rest, rest = (l.take i).foldl (cutS ⟨hp, hk, hf, ht⟩) [] := ⟨_, rfl⟩
        rw [← hrest] at hF hlen HG
        have HF : Hid _ := hF
        clear hrest hF
        obtain ⟨c0, c1, c2, c3⟩ := (RowAt.below (HR.out : RowAt w g l) ((Below.refl _ _).alloc (Nat.le_refl _) _) hg).below HB.out (by omega) i x HX.out
        obtain ⟨hcc, _⟩ := bcell (W := w.alloc (.cells #[.int .i64 hp, .int .i64 hk, .int .i64 hf, .int .i64 ht] 129)) (by simpa using HB.out)
        have d0 := hcc w.heap.size 0 (by simp)
        have d1 := hcc w.heap.size 1 (by simp)
        have d2 := hcc w.heap.size 2 (by simp)
        have d3 := hcc w.heap.size 3 (by simp)
        clear hcc
        simp at d0 d1 d2 d3
        have hsz : w.heap.size + 1 ≤ wr.heap.size := by have := HB.out.size; simpa using this
        have hsz2 : w.heap.size < wr.heap.size := by omega
        have hgw : g < wr.heap.size := by omega
        by_cases hpp : x.p = hp
        · have hpb : (x.p != hp) = false := by simpa using hpp
          have HP : Hid _ := hpp
          clear hpp
          cases hm : meetsB x.f x.t hf ht
          · go_wp2_with (first
              | (go_at_call 159; refine (meets_any _ _ _ _ _ _ _ _ _).mono ?_; rintro e wm ⟨rfl, hbm⟩; have HM : Hid _ := hbm; have m0 : wm.cell? ⟨wr.heap.size, 0, none⟩ = some (.int .i64 x.p) := ((bcell hbm).1 _ _ (by simp)).trans (by simp [*]); have m1 : wm.cell? ⟨wr.heap.size, 1, none⟩ = some (.int .i64 x.k) := ((bcell hbm).1 _ _ (by simp)).trans (by simp [*]); have m2 : wm.cell? ⟨wr.heap.size, 2, none⟩ = some (.int .i64 x.f) := ((bcell hbm).1 _ _ (by simp)).trans (by simp [*]); have m3 : wm.cell? ⟨wr.heap.size, 3, none⟩ = some (.int .i64 x.t) := ((bcell hbm).1 _ _ (by simp)).trans (by simp [*]); have n0 : wm.cell? ⟨w.heap.size, 0, none⟩ = some (.int .i64 hp) := ((bcell hbm).1 _ _ (by simp <;> omega)).trans ((World.cell?_alloc_past (w := wr) _ w.heap.size 0 hsz2).trans d0); have n1 : wm.cell? ⟨w.heap.size, 1, none⟩ = some (.int .i64 hk) := ((bcell hbm).1 _ _ (by simp <;> omega)).trans ((World.cell?_alloc_past (w := wr) _ w.heap.size 1 hsz2).trans d1); have n2 : wm.cell? ⟨w.heap.size, 2, none⟩ = some (.int .i64 hf) := ((bcell hbm).1 _ _ (by simp <;> omega)).trans ((World.cell?_alloc_past (w := wr) _ w.heap.size 2 hsz2).trans d2); have n3 : wm.cell? ⟨w.heap.size, 3, none⟩ = some (.int .i64 ht) := ((bcell hbm).1 _ _ (by simp <;> omega)).trans ((World.cell?_alloc_past (w := wr) _ w.heap.size 3 hsz2).trans d3); have hzm : wr.heap.size + 1 ≤ wm.heap.size := (by have := hbm.size; simpa using this); have hzw : wr.heap.size < wm.heap.size := (by omega); have hzv : w.heap.size < wm.heap.size := (by omega); clear hbm)
              | (go_at_call 163; refine (((HG.out.alloc _).below HM.out).insert (by omega) _ _ _ _).mono ?_; rintro e w' ⟨v', rfl, hG', hgb⟩; have HG1 : Hid _ := hG'; have HB1 : Hid _ := hgb; clear hG' hgb))
            go_roundw
            case rel =>
              refine ⟨i + 1, by go_num, by omega, ?_, ?_⟩
              · show Good _ _ _ _
                rw [HF.out, cutS_off hm]; exact HG1.out
              · exact ((HB.out.alloc (by omega) _).trans (HM.out.mono (by simp <;> omega))).trans (below_gb HB1.out (by omega) (fun k hk => (HG.out.own.lt k hk).1))
            case measure => simp [intOf]; omega
          · by_cases hlf : x.f < hf
            · by_cases hrt : ht < x.t
              · go_wp2_with (first
                  | (go_at_call 159; refine (meets_any _ _ _ _ _ _ _ _ _).mono ?_; rintro e wm ⟨rfl, hbm⟩; have HM : Hid _ := hbm; have m0 : wm.cell? ⟨wr.heap.size, 0, none⟩ = some (.int .i64 x.p) := ((bcell hbm).1 _ _ (by simp)).trans (by simp [*]); have m1 : wm.cell? ⟨wr.heap.size, 1, none⟩ = some (.int .i64 x.k) := ((bcell hbm).1 _ _ (by simp)).trans (by simp [*]); have m2 : wm.cell? ⟨wr.heap.size, 2, none⟩ = some (.int .i64 x.f) := ((bcell hbm).1 _ _ (by simp)).trans (by simp [*]); have m3 : wm.cell? ⟨wr.heap.size, 3, none⟩ = some (.int .i64 x.t) := ((bcell hbm).1 _ _ (by simp)).trans (by simp [*]); have n0 : wm.cell? ⟨w.heap.size, 0, none⟩ = some (.int .i64 hp) := ((bcell hbm).1 _ _ (by simp <;> omega)).trans ((World.cell?_alloc_past (w := wr) _ w.heap.size 0 hsz2).trans d0); have n1 : wm.cell? ⟨w.heap.size, 1, none⟩ = some (.int .i64 hk) := ((bcell hbm).1 _ _ (by simp <;> omega)).trans ((World.cell?_alloc_past (w := wr) _ w.heap.size 1 hsz2).trans d1); have n2 : wm.cell? ⟨w.heap.size, 2, none⟩ = some (.int .i64 hf) := ((bcell hbm).1 _ _ (by simp <;> omega)).trans ((World.cell?_alloc_past (w := wr) _ w.heap.size 2 hsz2).trans d2); have n3 : wm.cell? ⟨w.heap.size, 3, none⟩ = some (.int .i64 ht) := ((bcell hbm).1 _ _ (by simp <;> omega)).trans ((World.cell?_alloc_past (w := wr) _ w.heap.size 3 hsz2).trans d3); have hzm : wr.heap.size + 1 ≤ wm.heap.size := (by have := hbm.size; simpa using this); have hzw : wr.heap.size < wm.heap.size := (by omega); have hzv : w.heap.size < wm.heap.size := (by omega); clear hbm)
                  | (go_at_call_of 163 (u5); refine (((HG.out.alloc _).below HM.out).insert (by omega) _ _ _ _).mono ?_; rintro e w' ⟨v', rfl, hG', hgb⟩; have HG1 : Hid _ := hG'; have HB1 : Hid _ := hgb; have p0 : w'.cell? ⟨wr.heap.size, 0, none⟩ = some (.int .i64 x.p) := (gb_cell hgb hzw (HG.out.lt (Nat.le_refl _)) _).trans (by assumption); have p1 : w'.cell? ⟨wr.heap.size, 1, none⟩ = some (.int .i64 x.k) := (gb_cell hgb hzw (HG.out.lt (Nat.le_refl _)) _).trans (by assumption); have p2 : w'.cell? ⟨wr.heap.size, 2, none⟩ = some (.int .i64 x.f) := (gb_cell hgb hzw (HG.out.lt (Nat.le_refl _)) _).trans (by assumption); have p3 : w'.cell? ⟨wr.heap.size, 3, none⟩ = some (.int .i64 x.t) := (gb_cell hgb hzw (HG.out.lt (Nat.le_refl _)) _).trans (by assumption); have q0 : w'.cell? ⟨w.heap.size, 0, none⟩ = some (.int .i64 hp) := (gb_cell hgb hzv (HG.out.ge (Nat.lt_succ_self _)) _).trans (by assumption); have q1 : w'.cell? ⟨w.heap.size, 1, none⟩ = some (.int .i64 hk) := (gb_cell hgb hzv (HG.out.ge (Nat.lt_succ_self _)) _).trans (by assumption); have q2 : w'.cell? ⟨w.heap.size, 2, none⟩ = some (.int .i64 hf) := (gb_cell hgb hzv (HG.out.ge (Nat.lt_succ_self _)) _).trans (by assumption); have q3 : w'.cell? ⟨w.heap.size, 3, none⟩ = some (.int .i64 ht) := (gb_cell hgb hzv (HG.out.ge (Nat.lt_succ_self _)) _).trans (by assumption); clear hG' hgb)
                  | (go_at_call 163; refine (HG1.out.insert (by rw [length_insR]; omega) _ _ _ _).mono ?_; rintro e w2 ⟨v2, rfl, hG2, hgb2⟩; have HG2 : Hid _ := hG2; have HB2 : Hid _ := hgb2; clear hG2 hgb2))
                go_roundw
                case rel =>
                  refine ⟨i + 1, by go_num, by omega, ?_, ?_⟩
                  · show Good _ _ _ _
                    rw [HF.out, cutS_both (h := ⟨hp, hk, hf, ht⟩) (x := x) HP.out hm hlf hrt]; exact HG2.out
                  · exact (((HB.out.alloc (by omega) _).trans (HM.out.mono (by simp <;> omega))).trans (below_gb HB1.out (by omega) (fun k hk => (HG.out.own.lt k hk).1))).trans (below_gb HB2.out (by have := HB1.out.size; omega) (fun k hk => (HG1.out.own.lt k hk).1))
                case measure => simp [intOf]; omega
              · go_wp2_with (first
                  | (go_at_call 159; refine (meets_any _ _ _ _ _ _ _ _ _).mono ?_; rintro e wm ⟨rfl, hbm⟩; have HM : Hid _ := hbm; have m0 : wm.cell? ⟨wr.heap.size, 0, none⟩ = some (.int .i64 x.p) := ((bcell hbm).1 _ _ (by simp)).trans (by simp [*]); have m1 : wm.cell? ⟨wr.heap.size, 1, none⟩ = some (.int .i64 x.k) := ((bcell hbm).1 _ _ (by simp)).trans (by simp [*]); have m2 : wm.cell? ⟨wr.heap.size, 2, none⟩ = some (.int .i64 x.f) := ((bcell hbm).1 _ _ (by simp)).trans (by simp [*]); have m3 : wm.cell? ⟨wr.heap.size, 3, none⟩ = some (.int .i64 x.t) := ((bcell hbm).1 _ _ (by simp)).trans (by simp [*]); have n0 : wm.cell? ⟨w.heap.size, 0, none⟩ = some (.int .i64 hp) := ((bcell hbm).1 _ _ (by simp <;> omega)).trans ((World.cell?_alloc_past (w := wr) _ w.heap.size 0 hsz2).trans d0); have n1 : wm.cell? ⟨w.heap.size, 1, none⟩ = some (.int .i64 hk) := ((bcell hbm).1 _ _ (by simp <;> omega)).trans ((World.cell?_alloc_past (w := wr) _ w.heap.size 1 hsz2).trans d1); have n2 : wm.cell? ⟨w.heap.size, 2, none⟩ = some (.int .i64 hf) := ((bcell hbm).1 _ _ (by simp <;> omega)).trans ((World.cell?_alloc_past (w := wr) _ w.heap.size 2 hsz2).trans d2); have n3 : wm.cell? ⟨w.heap.size, 3, none⟩ = some (.int .i64 ht) := ((bcell hbm).1 _ _ (by simp <;> omega)).trans ((World.cell?_alloc_past (w := wr) _ w.heap.size 3 hsz2).trans d3); have hzm : wr.heap.size + 1 ≤ wm.heap.size := (by have := hbm.size; simpa using this); have hzw : wr.heap.size < wm.heap.size := (by omega); have hzv : w.heap.size < wm.heap.size := (by omega); clear hbm)
                  | (go_at_call_of 163 (u5); refine (((HG.out.alloc _).below HM.out).insert (by omega) _ _ _ _).mono ?_; rintro e w' ⟨v', rfl, hG', hgb⟩; have HG1 : Hid _ := hG'; have HB1 : Hid _ := hgb; have p0 : w'.cell? ⟨wr.heap.size, 0, none⟩ = some (.int .i64 x.p) := (gb_cell hgb hzw (HG.out.lt (Nat.le_refl _)) _).trans (by assumption); have p1 : w'.cell? ⟨wr.heap.size, 1, none⟩ = some (.int .i64 x.k) := (gb_cell hgb hzw (HG.out.lt (Nat.le_refl _)) _).trans (by assumption); have p2 : w'.cell? ⟨wr.heap.size, 2, none⟩ = some (.int .i64 x.f) := (gb_cell hgb hzw (HG.out.lt (Nat.le_refl _)) _).trans (by assumption); have p3 : w'.cell? ⟨wr.heap.size, 3, none⟩ = some (.int .i64 x.t) := (gb_cell hgb hzw (HG.out.lt (Nat.le_refl _)) _).trans (by assumption); have q0 : w'.cell? ⟨w.heap.size, 0, none⟩ = some (.int .i64 hp) := (gb_cell hgb hzv (HG.out.ge (Nat.lt_succ_self _)) _).trans (by assumption); have q1 : w'.cell? ⟨w.heap.size, 1, none⟩ = some (.int .i64 hk) := (gb_cell hgb hzv (HG.out.ge (Nat.lt_succ_self _)) _).trans (by assumption); have q2 : w'.cell? ⟨w.heap.size, 2, none⟩ = some (.int .i64 hf) := (gb_cell hgb hzv (HG.out.ge (Nat.lt_succ_self _)) _).trans (by assumption); have q3 : w'.cell? ⟨w.heap.size, 3, none⟩ = some (.int .i64 ht) := (gb_cell hgb hzv (HG.out.ge (Nat.lt_succ_self _)) _).trans (by assumption); clear hG' hgb))
                go_roundw
                case rel =>
                  refine ⟨i + 1, by go_num, by omega, ?_, ?_⟩
                  · show Good _ _ _ _
                    rw [HF.out, cutS_left (h := ⟨hp, hk, hf, ht⟩) (x := x) HP.out hm hlf (Int.not_lt.2 hrt)]; exact HG1.out
                  · exact ((HB.out.alloc (by omega) _).trans (HM.out.mono (by simp <;> omega))).trans (below_gb HB1.out (by omega) (fun k hk => (HG.out.own.lt k hk).1))
                case measure => simp [intOf]; omega
            · by_cases hrt : ht < x.t
              · go_wp2_with (first
                  | (go_at_call 159; refine (meets_any _ _ _ _ _ _ _ _ _).mono ?_; rintro e wm ⟨rfl, hbm⟩; have HM : Hid _ := hbm; have m0 : wm.cell? ⟨wr.heap.size, 0, none⟩ = some (.int .i64 x.p) := ((bcell hbm).1 _ _ (by simp)).trans (by simp [*]); have m1 : wm.cell? ⟨wr.heap.size, 1, none⟩ = some (.int .i64 x.k) := ((bcell hbm).1 _ _ (by simp)).trans (by simp [*]); have m2 : wm.cell? ⟨wr.heap.size, 2, none⟩ = some (.int .i64 x.f) := ((bcell hbm).1 _ _ (by simp)).trans (by simp [*]); have m3 : wm.cell? ⟨wr.heap.size, 3, none⟩ = some (.int .i64 x.t) := ((bcell hbm).1 _ _ (by simp)).trans (by simp [*]); have n0 : wm.cell? ⟨w.heap.size, 0, none⟩ = some (.int .i64 hp) := ((bcell hbm).1 _ _ (by simp <;> omega)).trans ((World.cell?_alloc_past (w := wr) _ w.heap.size 0 hsz2).trans d0); have n1 : wm.cell? ⟨w.heap.size, 1, none⟩ = some (.int .i64 hk) := ((bcell hbm).1 _ _ (by simp <;> omega)).trans ((World.cell?_alloc_past (w := wr) _ w.heap.size 1 hsz2).trans d1); have n2 : wm.cell? ⟨w.heap.size, 2, none⟩ = some (.int .i64 hf) := ((bcell hbm).1 _ _ (by simp <;> omega)).trans ((World.cell?_alloc_past (w := wr) _ w.heap.size 2 hsz2).trans d2); have n3 : wm.cell? ⟨w.heap.size, 3, none⟩ = some (.int .i64 ht) := ((bcell hbm).1 _ _ (by simp <;> omega)).trans ((World.cell?_alloc_past (w := wr) _ w.heap.size 3 hsz2).trans d3); have hzm : wr.heap.size + 1 ≤ wm.heap.size := (by have := hbm.size; simpa using this); have hzw : wr.heap.size < wm.heap.size := (by omega); have hzv : w.heap.size < wm.heap.size := (by omega); clear hbm)
                  | (go_at_call 163; refine (((HG.out.alloc _).below HM.out).insert (by omega) _ _ _ _).mono ?_; rintro e w' ⟨v', rfl, hG', hgb⟩; have HG1 : Hid _ := hG'; have HB1 : Hid _ := hgb; clear hG' hgb))
                go_roundw
                case rel =>
                  refine ⟨i + 1, by go_num, by omega, ?_, ?_⟩
                  · show Good _ _ _ _
                    rw [HF.out, cutS_right (h := ⟨hp, hk, hf, ht⟩) (x := x) HP.out hm (Int.not_lt.2 hlf) hrt]; exact HG1.out
                  · exact ((HB.out.alloc (by omega) _).trans (HM.out.mono (by simp <;> omega))).trans (below_gb HB1.out (by omega) (fun k hk => (HG.out.own.lt k hk).1))
                case measure => simp [intOf]; omega
              · go_wp2_with (go_at_call 159; refine (meets_any _ _ _ _ _ _ _ _ _).mono ?_; rintro e wm ⟨rfl, hbm⟩; have HM : Hid _ := hbm; have m0 : wm.cell? ⟨wr.heap.size, 0, none⟩ = some (.int .i64 x.p) := ((bcell hbm).1 _ _ (by simp)).trans (by simp [*]); have m1 : wm.cell? ⟨wr.heap.size, 1, none⟩ = some (.int .i64 x.k) := ((bcell hbm).1 _ _ (by simp)).trans (by simp [*]); have m2 : wm.cell? ⟨wr.heap.size, 2, none⟩ = some (.int .i64 x.f) := ((bcell hbm).1 _ _ (by simp)).trans (by simp [*]); have m3 : wm.cell? ⟨wr.heap.size, 3, none⟩ = some (.int .i64 x.t) := ((bcell hbm).1 _ _ (by simp)).trans (by simp [*]); have n0 : wm.cell? ⟨w.heap.size, 0, none⟩ = some (.int .i64 hp) := ((bcell hbm).1 _ _ (by simp <;> omega)).trans ((World.cell?_alloc_past (w := wr) _ w.heap.size 0 hsz2).trans d0); have n1 : wm.cell? ⟨w.heap.size, 1, none⟩ = some (.int .i64 hk) := ((bcell hbm).1 _ _ (by simp <;> omega)).trans ((World.cell?_alloc_past (w := wr) _ w.heap.size 1 hsz2).trans d1); have n2 : wm.cell? ⟨w.heap.size, 2, none⟩ = some (.int .i64 hf) := ((bcell hbm).1 _ _ (by simp <;> omega)).trans ((World.cell?_alloc_past (w := wr) _ w.heap.size 2 hsz2).trans d2); have n3 : wm.cell? ⟨w.heap.size, 3, none⟩ = some (.int .i64 ht) := ((bcell hbm).1 _ _ (by simp <;> omega)).trans ((World.cell?_alloc_past (w := wr) _ w.heap.size 3 hsz2).trans d3); have hzm : wr.heap.size + 1 ≤ wm.heap.size := (by have := hbm.size; simpa using this); have hzw : wr.heap.size < wm.heap.size := (by omega); have hzv : w.heap.size < wm.heap.size := (by omega); clear hbm)
                go_roundw
                case rel =>
                  refine ⟨i + 1, by go_num, by omega, ?_, ?_⟩
                  · show Good _ _ _ _
                    rw [HF.out, cutS_none (h := ⟨hp, hk, hf, ht⟩) (x := x) HP.out hm (Int.not_lt.2 hlf) (Int.not_lt.2 hrt)]; exact (HG.out.alloc _).below HM.out
                  · exact (HB.out.alloc (by omega) _).trans (HM.out.mono (by simp <;> omega))
                case measure => simp [intOf]; omega
        · have hpb : (x.p != hp) = true := by simpa using hpp
          have HP : Hid _ := hpp
          clear hpp
          go_wp2_with (go_at_call 163; refine ((HG.out.alloc _).insert (by omega) _ _ _ _).mono ?_; rintro e w' ⟨v', rfl, hG', hgb⟩)
          go_roundw
          case rel =>
            refine ⟨i + 1, by go_num, by omega, ?_, ?_⟩
            · show Good _ _ _ _
              rw [HF.out, cutS_far HP.out]; exact hG'
            · exact (HB.out.alloc (by omega) _).trans (below_gb hgb (by simp <;> omega) (fun k hk => (HG.out.own.lt k hk).1))
          case measure => simp [intOf]; omega
      · go_wp2
        go_ret
        have ei : l.take i = l := List.take_of_length_le (by omega)
        refine ⟨_, rfl, ?_, ((Below.refl _ _).alloc (Nat.le_refl _) _).trans (HB.out.mono (Nat.le_succ _))⟩
        have := HG.out
        rw [ei] at this
        exact this.base (Nat.le_succ _)
end Go.Proofs.YtaicdjhblbobbaaGreat

/- Contract of List.join: the list that it makes, in new memory. -/
namespace Go.Proofs.YtaicdjhblbobbaaGreat
open Go.RowKit Go.Lib

theorem block_cells {w : World} {b : Nat} {p k f t : Int} (h : w.heap[b]? = some (.cells #[.int .i64 p, .int .i64 k, .int .i64 f, .int .i64 t] 129 (0, 0))) :
    w.cell? ⟨b, 0, none⟩ = some (.int .i64 p) ∧ w.cell? ⟨b, 1, none⟩ = some (.int .i64 k) ∧ w.cell? ⟨b, 2, none⟩ = some (.int .i64 f) ∧ w.cell? ⟨b, 3, none⟩ = some (.int .i64 t) ∧ (∀ o, w.frozen? ⟨b, o, none⟩ = false) := by
  refine ⟨?_, ?_, ?_, ?_, fun o => ?_⟩ <;> simp [World.cell?, World.frozen?, h]

theorem heap_setCell_at {w : World} {b o : Nat} {c : Array Value} {t : TypeId} {fr : Nat × Nat} {v : Value} (h : w.heap[b]? = some (.cells c t fr)) : (w.setCell ⟨b, o, none⟩ v).heap[b]? = some (.cells (c.setIfInBounds o v) t fr) := by
  simp [World.setCell, Array.getElem?_modify, h]

set_option maxHeartbeats 4000000 in
set_option maxRecDepth 100000 in
theorem join_any (v : Value) (l : List Rn) (rp rk rf rt : Int) (w : World) (hv : Reads w v l) (hl : l.length < 1000) (hsm : ∀ x, x ∈ l → x.sm) (hr : (Rn.mk rp rk rf rt).sm) :
    Calls Tryz.prog 177 #[v, .agg #[.int .i64 rp, .int .i64 rk, .int .i64 rf, .int .i64 rt]] w fun e w' => ∃ v', e = .returned v' ∧ Good w.heap.size w' v' (joinR l ⟨rp, rk, rf, rt⟩) ∧ Below w.heap.size w w' := by
  have HJ : Hid _ := JoinOk.fold l ⟨rp, rk, rf, rt⟩ hr hsm
  have HS : Hid _ := hsm
  clear hsm hr
  rcases hv with ⟨rfl, rfl⟩ | ⟨g, cap, rfl, hgB, hrow⟩
  · go_enter Tryz.func177, Tryz.ntmps177
    go_wp2
    go_loop [5, 10] (fun s5 s10 => s5 = .slice none 0 0 ∧ s10 = .int .i64 0) (fun _ _ => 0)
    case atStart => exact ⟨rfl, rfl⟩
    case round =>
      obtain ⟨rfl, rfl⟩ := hrel
      go_wp2_with (go_at_call 163; refine ((Good.nil (base := w.heap.size + 1) (by simp)).insert (by simp) _ _ _ _).mono ?_; rintro e w' ⟨v', rfl, hG', hgb⟩; have HG1 : Hid _ := hG'; have HB1 : Hid _ := hgb; clear hG' hgb)
      go_ret
      refine ⟨_, rfl, HG1.out.base (Nat.le_succ w.heap.size), ((Below.refl _ _).alloc (Nat.le_refl _) _).trans (below_gb HB1.out (by simp) (fun k hk => by simp [Value.ownBlock] at hk))⟩
  · have HR : Hid _ := hrow
    have hg := hgB.lt
    clear hrow hgB
    go_enter Tryz.func177, Tryz.ntmps177
    go_wp2
    go_loopw [5, 10] (fun s5 s10 wr => ∃ i : Nat, s10 = .int .i64 i ∧ i ≤ l.length ∧ Hid (Good (w.heap.size + 1) wr s5 ((l.take i).foldl joinS ([], ⟨rp, rk, rf, rt⟩)).1) ∧ Hid (Below w.heap.size w wr) ∧ Hid (∃ r : Rn, r = ((l.take i).foldl joinS ([], ⟨rp, rk, rf, rt⟩)).2 ∧ wr.heap[w.heap.size]? = some (.cells #[.int .i64 r.p, .int .i64 r.k, .int .i64 r.f, .int .i64 r.t] 129 (0, 0)))) (fun _ s10 _ => l.length - (intOf s10).toNat)
    case atStart => exact ⟨0, rfl, Nat.zero_le _, Good.nil (by simp), (Below.refl _ _).alloc (Nat.le_refl _) _, ⟨_, rfl, heap_alloc_new w _⟩⟩
    case round =>
      obtain ⟨i, rfl, hi, HG, HB, HH⟩ := hrel
      have hok := HJ.out i hi
      obtain ⟨r, hre, hblk⟩ := HH.out
      obtain ⟨d0, d1, d2, d3, dz⟩ := block_cells hblk
      have HK : Hid _ := hblk
      have hwr : w.heap.size < wr.heap.size := (Array.getElem?_eq_some_iff.1 hblk).1
      clear HH hblk
      have hrs : r.sm := by rw [hre]; exact hok.sm
      obtain ⟨hr1, hr2, hr3, hr4⟩ := hrs
      by_cases hlt : i < l.length
      · obtain ⟨x, hx⟩ : ∃ x, l[i]? = some x := ⟨_, List.getElem?_eq_getElem hlt⟩
        have HX : Hid (l[i]? = some x) := hx
        have hF : (l.take (i + 1)).foldl joinS ([], ⟨rp, rk, rf, rt⟩) = joinS ((l.take i).foldl joinS ([], ⟨rp, rk, rf, rt⟩)) x := by
          rw [List.take_add_one, hx]; simp
        obtain ⟨hx1, hx2, hx3, hx4⟩ := HS.out x (List.mem_of_getElem? hx)
        clear hx
        have hlen := hok.len
        obtain ⟨s, hs⟩ : ∃ s, s = (l.take i).foldl joinS ([], ⟨rp, rk, rf, rt⟩) := ⟨_, rfl⟩
        rw [← hs] at hF hlen HG hre
        have HF : Hid _ := hF
        have HE : Hid _ := hre
        clear hs hF hre hok
        obtain ⟨c0, c1, c2, c3⟩ := RowAt.below (HR.out : RowAt w g l) HB.out hg i x HX.out
        have hgw : g < wr.heap.size := by omega
        have HC : Hid (wr.heap[w.heap.size]? = some (.cells #[.int .i64 r.p, .int .i64 r.k, .int .i64 r.f, .int .i64 r.t] 129 (0, 0))) := HK
        cases hc : contB x.p x.k x.f x.t r.p r.k r.f r.t
        · go_wp2_with (first
            | (go_at_call 194; refine (continues_any _ _ _ _ _ _ _ _ _ ⟨hx3, hx4⟩ ⟨hr3, hr4⟩).mono ?_; rintro e wm ⟨rfl, hbm⟩; have HM : Hid _ := hbm; have m0 : wm.cell? ⟨wr.heap.size, 0, none⟩ = some (.int .i64 x.p) := ((bcell hbm).1 _ _ (by simp)).trans (by simp); have m1 : wm.cell? ⟨wr.heap.size, 1, none⟩ = some (.int .i64 x.k) := ((bcell hbm).1 _ _ (by simp)).trans (by simp); have m2 : wm.cell? ⟨wr.heap.size, 2, none⟩ = some (.int .i64 x.f) := ((bcell hbm).1 _ _ (by simp)).trans (by simp); have m3 : wm.cell? ⟨wr.heap.size, 3, none⟩ = some (.int .i64 x.t) := ((bcell hbm).1 _ _ (by simp)).trans (by simp); have n0 : wm.cell? ⟨w.heap.size, 0, none⟩ = some (.int .i64 r.p) := ((bcell hbm).1 _ _ (by simp <;> omega)).trans ((World.cell?_alloc_past (w := wr) _ w.heap.size 0 hwr).trans d0); have n1 : wm.cell? ⟨w.heap.size, 1, none⟩ = some (.int .i64 r.k) := ((bcell hbm).1 _ _ (by simp <;> omega)).trans ((World.cell?_alloc_past (w := wr) _ w.heap.size 1 hwr).trans d1); have n2 : wm.cell? ⟨w.heap.size, 2, none⟩ = some (.int .i64 r.f) := ((bcell hbm).1 _ _ (by simp <;> omega)).trans ((World.cell?_alloc_past (w := wr) _ w.heap.size 2 hwr).trans d2); have n3 : wm.cell? ⟨w.heap.size, 3, none⟩ = some (.int .i64 r.t) := ((bcell hbm).1 _ _ (by simp <;> omega)).trans ((World.cell?_alloc_past (w := wr) _ w.heap.size 3 hwr).trans d3); have nz : ∀ o, wm.frozen? ⟨w.heap.size, o, none⟩ = false := (fun o => ((bcell hbm).2 _ _ (by simp <;> omega)).trans ((World.frozen?_alloc_old wr _ ⟨w.heap.size, o, none⟩ (by simp <;> omega)).trans (dz o))); have hzm : wr.heap.size + 1 ≤ wm.heap.size := (by have := hbm.size; simpa using this); have hzw : wr.heap.size < wm.heap.size := (by omega); have hzv : w.heap.size < wm.heap.size := (by omega); clear hbm)
            | (go_at_call 163; refine (((HG.out.alloc _).below HM.out).insert (by omega) _ _ _ _).mono ?_; rintro e w' ⟨v', rfl, hG', hgb⟩; have HG1 : Hid _ := hG'; have HB1 : Hid _ := hgb; clear hG' hgb))
          go_roundw
          case rel =>
            have e1 : joinS s x = (insR s.1 x, s.2) := by
              have hc' := hc
              rw [HE.out] at hc'
              simp [joinS, hc']
            refine ⟨i + 1, by go_num, by omega, ?_, ?_, ?_⟩
            · show Good _ _ _ _
              rw [HF.out, e1]; exact HG1.out
            · exact ((HB.out.alloc (by omega) _).trans (HM.out.mono (by simp <;> omega))).trans (below_gb HB1.out (by omega) (fun k hk => by have := (HG.out.own.lt k hk).1; omega))
            · refine ⟨r, by rw [HF.out, e1]; exact HE.out, ?_⟩
              rw [HB1.out.block w.heap.size hzv (fun e => HG.out.ge (Nat.lt_succ_self _) e.symm), HM.out.block w.heap.size (by simp <;> omega), Below.heap_alloc _ _ _ hwr]
              exact HC.out
          case measure => simp [intOf]; omega
        · go_wp2_with (first
            | (go_at_call 194; refine (continues_any _ _ _ _ _ _ _ _ _ ⟨hx3, hx4⟩ ⟨hr3, hr4⟩).mono ?_; rintro e wm ⟨rfl, hbm⟩; have HM : Hid _ := hbm; have m0 : wm.cell? ⟨wr.heap.size, 0, none⟩ = some (.int .i64 x.p) := ((bcell hbm).1 _ _ (by simp)).trans (by simp); have m1 : wm.cell? ⟨wr.heap.size, 1, none⟩ = some (.int .i64 x.k) := ((bcell hbm).1 _ _ (by simp)).trans (by simp); have m2 : wm.cell? ⟨wr.heap.size, 2, none⟩ = some (.int .i64 x.f) := ((bcell hbm).1 _ _ (by simp)).trans (by simp); have m3 : wm.cell? ⟨wr.heap.size, 3, none⟩ = some (.int .i64 x.t) := ((bcell hbm).1 _ _ (by simp)).trans (by simp); have n0 : wm.cell? ⟨w.heap.size, 0, none⟩ = some (.int .i64 r.p) := ((bcell hbm).1 _ _ (by simp <;> omega)).trans ((World.cell?_alloc_past (w := wr) _ w.heap.size 0 hwr).trans d0); have n1 : wm.cell? ⟨w.heap.size, 1, none⟩ = some (.int .i64 r.k) := ((bcell hbm).1 _ _ (by simp <;> omega)).trans ((World.cell?_alloc_past (w := wr) _ w.heap.size 1 hwr).trans d1); have n2 : wm.cell? ⟨w.heap.size, 2, none⟩ = some (.int .i64 r.f) := ((bcell hbm).1 _ _ (by simp <;> omega)).trans ((World.cell?_alloc_past (w := wr) _ w.heap.size 2 hwr).trans d2); have n3 : wm.cell? ⟨w.heap.size, 3, none⟩ = some (.int .i64 r.t) := ((bcell hbm).1 _ _ (by simp <;> omega)).trans ((World.cell?_alloc_past (w := wr) _ w.heap.size 3 hwr).trans d3); have nz : ∀ o, wm.frozen? ⟨w.heap.size, o, none⟩ = false := (fun o => ((bcell hbm).2 _ _ (by simp <;> omega)).trans ((World.frozen?_alloc_old wr _ ⟨w.heap.size, o, none⟩ (by simp <;> omega)).trans (dz o))); have hzm : wr.heap.size + 1 ≤ wm.heap.size := (by have := hbm.size; simpa using this); have hzw : wr.heap.size < wm.heap.size := (by omega); have hzv : w.heap.size < wm.heap.size := (by omega); clear hbm))
          go_roundw
          case rel =>
            have e1 : joinS s x = (s.1, ⟨s.2.p, s.2.k, min s.2.f x.f, max s.2.t x.t⟩) := by
              have hc' := hc
              rw [HE.out] at hc'
              simp [joinS, hc']
            have hblk : wm.heap[w.heap.size]? = some (.cells #[.int .i64 r.p, .int .i64 r.k, .int .i64 r.f, .int .i64 r.t] 129 (0, 0)) := by
              rw [HM.out.block w.heap.size (by simp <;> omega), Below.heap_alloc _ _ _ hwr]
              exact HC.out
            refine ⟨i + 1, by go_num, by omega, ?_, ?_, ?_⟩
            · show Good _ _ _ _
              rw [HF.out, e1]
              exact (((HG.out.alloc _).below HM.out).setCell (HG.out.ge (Nat.lt_succ_self _)) _).setCell (HG.out.ge (Nat.lt_succ_self _)) _
            · exact (((HB.out.alloc (by omega) _).trans (HM.out.mono (by simp <;> omega))).setCell (Nat.le_refl _) _).setCell (Nat.le_refl _) _
            · refine ⟨⟨r.p, r.k, min r.f x.f, max r.t x.t⟩, by rw [HF.out, e1, ← HE.out], ?_⟩
              rw [heap_setCell_at (heap_setCell_at hblk)]
              have e2 : (if x.f < r.f then x.f else r.f) = min r.f x.f := by split <;> omega
              have e3 : (if r.t < x.t then x.t else r.t) = max r.t x.t := by split <;> omega
              rw [e2, e3]
              rfl
          case measure => simp [intOf]; omega
      · have ei : l.take i = l := List.take_of_length_le (by omega)
        have HE : Hid _ := hre
        have hlen := hok.len
        clear hok hre
        go_wp2_with (go_at_call 163; refine (HG.out.insert (by omega) _ _ _ _).mono ?_; rintro e w' ⟨v', rfl, hG', hgb⟩; have HG1 : Hid _ := hG'; have HB1 : Hid _ := hgb; clear hG' hgb)
        go_ret
        refine ⟨_, rfl, ?_, HB.out.trans (below_gb HB1.out (by omega) (fun k hk => by have := (HG.out.own.lt k hk).1; omega))⟩
        have h1 := HG1.out.base (Nat.le_succ w.heap.size)
        have h2 := HE.out
        have h3 : (Rn.mk r.p r.k r.f r.t) = r := rfl
        rw [h3, h2, ei] at h1
        exact h1
end Go.Proofs.YtaicdjhblbobbaaGreat

/- Openings by their addresses: when two are one. -/
namespace Go.Proofs.YtaicdjhblbobbaaGreat
open Go.RowKit

/-- An opening lies in block b. -/
def Opn (w : World) (b : Nat) : Prop := ∃ f, OpenAt w b f
theorem Opn.lt {w : World} {b : Nat} (h : Opn w b) : b < w.heap.size := by
  obtain ⟨f, h⟩ := h
  exact (Array.getElem?_eq_some_iff.1 h).1
theorem Opn.below {w w' : World} {b : Nat} (h : Opn w b) (hb : Below w.heap.size w w') : Opn w' b := by
  have hl := h.lt
  obtain ⟨f, h⟩ := h
  exact ⟨f, (hb.block b hl).trans h⟩
theorem Opn.of_block {w w' : World} {b : Nat} (h : Opn w b) (hb : w'.heap[b]? = w.heap[b]?) : Opn w' b := by
  obtain ⟨f, h⟩ := h
  exact ⟨f, hb.trans h⟩
theorem Tryz.infoOpening : (Tryz.prog.info? 143).map (fun i => (i.zero, i.size, i.bytes)) = some (some (.agg #[.int .i64 0]), 1, 8) := by kernel_rfl
theorem run_eqlPtrIn {w : World} {o o' : Option Nat} (h : ∀ b, o = some b → Opn w b) (h' : ∀ b, o' = some b → Opn w b) (d : Nat) :
    (Op.equalIn (d + 1) 133 (ptrV o) (ptrV o')).run Tryz.prog w = .ok (decide (o = o')) w := by
  obtain ⟨i0, hi0, _, hz1, _⟩ : ∃ i, Tryz.prog.info? 143 = some i ∧ i.zero = some (.agg #[.int .i64 0]) ∧ i.size = 1 ∧ i.bytes = 8 := by
    cases e : Tryz.prog.info? 143 with
    | none => have := Tryz.infoOpening; rw [e] at this; cases this
    | some i => have := Tryz.infoOpening; rw [e] at this; simp at this; exact ⟨i, rfl, this.1, this.2.1, this.2.2⟩
  have hsz : i0.size ≠ 0 := by omega
  have hu := Tryz.underlying133
  cases o with
  | none =>
    cases o' with
    | none => simp [ptrV, Op.equalIn, run_underlying hu]
    | some b => simp [ptrV, Op.equalIn, run_underlying hu]
  | some a =>
    cases o' with
    | none => simp [ptrV, Op.equalIn, run_underlying hu]
    | some b =>
      by_cases hab : a = b
      · subst hab
        simp [ptrV, Op.equalIn, run_underlying hu, sizeOf, typeInfo, hi0, run_sameAddr_same]
      · obtain ⟨f, hf⟩ := h a rfl
        obtain ⟨f', hf'⟩ := h' b rfl
        have hne : (⟨a, 0, none⟩ : Addr) ≠ ⟨b, 0, none⟩ := fun e => hab (by cases e; rfl)
        simp [ptrV, Op.equalIn, run_underlying hu, sizeOf, typeInfo, hi0, hsz, run_sameAddr_other w hne hf hf', hab]
theorem run_eqlPtr {w : World} {o o' : Option Nat} (h : ∀ b, o = some b → Opn w b) (h' : ∀ b, o' = some b → Opn w b) :
    (Op.equal 133 (ptrV o) (ptrV o')).run Tryz.prog w = .ok (decide (o = o')) w := run_eqlPtrIn h h' 9999
theorem run_eql_opn {w : World} {o o' : Option Nat} (h : ∀ b, o = some b → Opn w b) (h' : ∀ b, o' = some b → Opn w b) :
    (binOp .eql 133 (ptrV o) (ptrV o')).run Tryz.prog w = .ok (.bool (decide (o = o'))) w := by
  have hq := run_eqlPtr h h'
  unfold ptrV at *
  simp only [binOp]
  simp [hq]
theorem run_neq_opn {w : World} {o o' : Option Nat} (h : ∀ b, o = some b → Opn w b) (h' : ∀ b, o' = some b → Opn w b) :
    (binOp .neq 133 (ptrV o) (ptrV o')).run Tryz.prog w = .ok (.bool (decide (o ≠ o'))) w := by
  have hq := run_eqlPtr h h'
  unfold ptrV at *
  simp only [binOp]
  simp [hq]
end Go.Proofs.YtaicdjhblbobbaaGreat

/- Contracts of List.Set and List.Without. -/
namespace Go.Proofs.YtaicdjhblbobbaaGreat
open Go.RowKit Go.Lib

theorem Good.reads {base : Nat} {W : World} {v : Value} {rest : List Rn} (h : Good base W v rest) : Reads W v rest := by
  rcases h.own.2 with ⟨hv, h0⟩ | ⟨g, cap, cur, hv, hg, hcur, r⟩
  · exact Or.inl ⟨hv, List.eq_nil_of_length_eq_zero h0⟩
  · refine Or.inr ⟨g, cap, hv, ⟨cur, hcur⟩, RowAt.owned (base := base) (n := rest.length) (cap := cap) ?_⟩
    have := h.own
    rw [hv] at this
    exact this
theorem Reads.below {w w' : World} {v : Value} {l : List Rn} (h : Reads w v l) (hb : Below w.heap.size w w') : Reads w' v l := by
  rcases h with h | ⟨g, cap, hv, hg, hr⟩
  · exact Or.inl h
  · exact Or.inr ⟨g, cap, hv, hg.of_block (hb.block g hg.lt), hr.below hb hg.lt⟩

/-- What cut leaves has small positions, if the list and the hole have. -/
theorem cutS_sm {h : Rn} (hh : -99 ≤ h.f ∧ h.f ≤ 99 ∧ -99 ≤ h.t ∧ h.t ≤ 99) {rest : List Rn} {r : Rn} (hr : r.sm) (hs : ∀ x, x ∈ rest → x.sm) : ∀ x, x ∈ cutS h rest r → x.sm := by
  intro x hx
  unfold cutS at hx
  have hr' := hr
  unfold Rn.sm at hr'
  split at hx
  · rcases mem_insR.1 hx with rfl | hx
    · exact hr
    · exact hs x hx
  · dsimp only at hx
    have key : ∀ y, y ∈ (if r.f < h.f then insR rest ⟨r.p, r.k, r.f, h.f - 1⟩ else rest) → y.sm := fun y hy => by
      split at hy
      · rcases mem_insR.1 hy with rfl | hy
        · unfold Rn.sm; simp only; omega
        · exact hs y hy
      · exact hs y hy
    split at hx
    · rcases mem_insR.1 hx with rfl | hx
      · unfold Rn.sm; simp only; omega
      · exact key x hx
    · exact key x hx
theorem cutR_sm {h : Rn} (hh : -99 ≤ h.f ∧ h.f ≤ 99 ∧ -99 ≤ h.t ∧ h.t ≤ 99) (l : List Rn) (hl : ∀ x, x ∈ l → x.sm) : ∀ x, x ∈ cutR l h → x.sm := by
  have : ∀ (l rest : List Rn), (∀ x, x ∈ l → x.sm) → (∀ x, x ∈ rest → x.sm) → ∀ x, x ∈ l.foldl (cutS h) rest → x.sm := fun l => by
    induction l with
    | nil => exact fun _ _ h => h
    | cons a t ih => exact fun rest h1 h2 => ih _ (fun x hx => h1 x (List.mem_cons_of_mem _ hx)) (cutS_sm hh (h1 a List.mem_cons_self) h2)
  exact this l [] hl (fun x hx => by cases hx)

set_option maxHeartbeats 2000000 in
theorem Without_any (v : Value) (l : List Rn) (p : Int) (w : World) (hv : Reads w v l) (hl : l.length < 1000) :
    Calls Tryz.prog 84 #[v, .int .i64 p] w fun e w' => ∃ v', e = .returned v' ∧ Good w.heap.size w' v' (cutR l ⟨p, 0, 0, 63⟩) ∧ Below w.heap.size w w' := by
  have HV : Hid _ := hv
  clear hv
  go_enter Tryz.func84, Tryz.ntmps84
  go_wp2_with (go_at_call 126; refine (cut_any _ l _ _ _ _ _ HV.out hl (by omega) (by omega)).mono ?_; rintro e w' ⟨v', rfl, hG', hgb⟩)
  go_ret
  exact ⟨_, rfl, hG', hgb⟩

set_option maxHeartbeats 2000000 in
theorem Set_any (v : Value) (l : List Rn) (rp rk rf rt : Int) (w : World) (hv : Reads w v l) (hl : l.length < 400) (hsm : ∀ x, x ∈ l → x.sm) (hr : 0 ≤ rf ∧ rf ≤ 63 ∧ 0 ≤ rt ∧ rt ≤ 63) :
    Calls Tryz.prog 150 #[v, .agg #[.int .i64 rp, .int .i64 rk, .int .i64 rf, .int .i64 rt]] w fun e w' => ∃ v', e = .returned v' ∧ Good w.heap.size w' v' (setR l ⟨rp, rk, rf, rt⟩) ∧ Below w.heap.size w w' := by
  have HV : Hid _ := hv
  have HS : Hid _ := hsm
  have hlc := length_cutR l ⟨rp, rk, rf, rt⟩
  have hcs : Hid _ := cutR_sm (h := ⟨rp, rk, rf, rt⟩) (by simp only; omega) l hsm
  obtain ⟨hr1, hr2, hr3, hr4⟩ := hr
  clear hv hsm
  by_cases hk : rk = 0
  · have HK : Hid _ := hk
    have hkb : (rk == 0) = true := by simpa using hk
    clear hk
    go_enter Tryz.func150, Tryz.ntmps150
    go_wp2_with (go_at_call 126; refine (cut_any _ l _ _ _ _ _ (Reads.below HV.out ((Below.refl _ _).alloc (Nat.le_refl _) _)) (by omega) (by omega) (by omega)).mono ?_; rintro e w' ⟨v', rfl, hG', hgb⟩; have HG1 : Hid _ := hG'; have HB1 : Hid _ := hgb; have b1 : w'.cell? ⟨w.heap.size, 1, none⟩ = some (.int .i64 rk) := ((bcell hgb).1 _ _ (by simp)).trans (by simp); clear hG' hgb)
    go_ret
    refine ⟨_, rfl, ?_, ((Below.refl _ _).alloc (Nat.le_refl _) _).trans (HB1.out.mono (by simp))⟩
    have := HG1.out.base (B := w.heap.size) (by simp)
    have e1 : setR l ⟨rp, rk, rf, rt⟩ = cutR l ⟨rp, rk, rf, rt⟩ := by simp [setR, HK.out]
    rw [e1]
    exact this
  · have HK : Hid _ := hk
    have hkb : (rk == 0) = false := by simpa using hk
    clear hk
    go_enter Tryz.func150, Tryz.ntmps150
    go_wp2_with (first
      | (go_at_call 126; refine (cut_any _ l _ _ _ _ _ (Reads.below HV.out ((Below.refl _ _).alloc (Nat.le_refl _) _)) (by omega) (by omega) (by omega)).mono ?_; rintro e w' ⟨v', rfl, hG', hgb⟩; have HG1 : Hid _ := hG'; have HB1 : Hid _ := hgb; have b0 : w'.cell? ⟨w.heap.size, 0, none⟩ = some (.int .i64 rp) := ((bcell hgb).1 _ _ (by simp)).trans (by simp); have b1 : w'.cell? ⟨w.heap.size, 1, none⟩ = some (.int .i64 rk) := ((bcell hgb).1 _ _ (by simp)).trans (by simp); have b2 : w'.cell? ⟨w.heap.size, 2, none⟩ = some (.int .i64 rf) := ((bcell hgb).1 _ _ (by simp)).trans (by simp); have b3 : w'.cell? ⟨w.heap.size, 3, none⟩ = some (.int .i64 rt) := ((bcell hgb).1 _ _ (by simp)).trans (by simp); clear hG' hgb)
      | (go_at_call 177; refine (join_any _ (cutR l ⟨rp, rk, rf, rt⟩) _ _ _ _ _ HG1.out.reads (by omega) hcs.out (by unfold Rn.sm; simp only; omega)).mono ?_; rintro e w2 ⟨v2, rfl, hG2, hgb2⟩; have HG2 : Hid _ := hG2; have HB2 : Hid _ := hgb2; clear hG2 hgb2))
    go_ret
    have hz := HB1.out.size
    simp at hz
    refine ⟨_, rfl, ?_, (((Below.refl _ _).alloc (Nat.le_refl _) _).trans (HB1.out.mono (by simp))).trans (HB2.out.mono (by omega))⟩
    have := HG2.out.base (B := w.heap.size) (by omega)
    have e1 : setR l ⟨rp, rk, rf, rt⟩ = joinR (cutR l ⟨rp, rk, rf, rt⟩) ⟨rp, rk, rf, rt⟩ := by simp only [setR]; rw [if_neg HK.out]
    rw [e1]
    exact this

/-- A row that is owned is one that is read. -/
theorem reads_own {base : Nat} {W : World} {v : Value} {l : List Rn} (h : W.ownsRow base 129 4 v l.length (flat l)) : Reads W v l := by
  rcases h.2 with ⟨hv, h0⟩ | ⟨g, cap, cur, hv, hg, hcur, r⟩
  · exact Or.inl ⟨hv, List.eq_nil_of_length_eq_zero h0⟩
  · refine Or.inr ⟨g, cap, hv, ⟨cur, hcur⟩, RowAt.owned (base := base) (n := l.length) (cap := cap) ?_⟩
    rw [hv] at h
    exact h
end Go.Proofs.YtaicdjhblbobbaaGreat
