/- Contracts of package queue, on: a copy, one more, and without one. -/
import Derived.Test.YtaicdjhblbobbabGreatGQueue
import Derived.Laws.IdiomCopy
namespace Go.Proofs.YtaicdjhblbobbabGreat
open Go.RowKit Go.Lib

theorem qcells_one (x : Ask) : ∀ u ∈ qcells x, u.oneCell' = true := by
  intro u hu
  simp only [qcells, List.mem_cons, List.not_mem_nil, or_false] at hu
  rcases hu with rfl | rfl | rfl | rfl | rfl | rfl | rfl | rfl <;> rfl
theorem flatQ_one (l : List Ask) : ∀ u ∈ flatQ l, u.oneCell' = true := fun u hu => by
  obtain ⟨x, _, h⟩ := List.mem_flatMap.1 hu
  exact qcells_one x u h
theorem flatQ_len (l : List Ask) : (flatQ l).length = l.length * 8 := flat_len qcells 8 qcells_len l
theorem own_empty (w : World) (e : TypeId) (sz : Nat) : (w.alloc (.cells #[] e)).ownsRow w.heap.size e sz (.slice (some ⟨w.heap.size, 0, none⟩) 0 0) 0 [] :=
  ⟨by simp, Or.inr ⟨w.heap.size, 0, #[], rfl, Nat.le_refl _, heap_alloc_new w _, Nat.le_refl _, by unfold maxLen; omega, by simp, by simp⟩⟩

set_option maxHeartbeats 1000000 in
set_option maxRecDepth 100000 in
theorem Clone_any {v : Value} {l : List Ask} {base : Nat} {w : World} (hv : w.ownsRow base 93 8 v l.length (flatQ l)) (hl : l.length < 1000) :
    Calls Tryz.prog 86 #[v] w fun e w' => ∃ v', e = .returned v' ∧ w'.ownsRow w.heap.size 93 8 v' l.length (flatQ l) ∧ Below w.heap.size w w' := by
  rcases hv.2 with ⟨rfl, h0⟩ | ⟨g, cap, cur, rfl, hb, hg, hnc, hcm, hcs, htk⟩
  · obtain rfl : l = [] := List.eq_nil_of_length_eq_zero h0
    clear hv
    have hq := run_eql_slice_nil (P := Tryz.prog) w 72 93 none 0 0 0 0 Tryz.underlying72
    go_enter Tryz.func86, Tryz.ntmps86
    go_wp2
    go_ret
    exact ⟨_, rfl, World.ownsRow_nil _ _ _ _, Below.refl _ _⟩
  · obtain ⟨i0, hi0, hz0, hz1, hz2⟩ := info_get Tryz.infoAsk
    have hgl : g < w.heap.size := (Array.getElem?_eq_some_iff.1 hg).1
    have hcells : ∀ j u, (flatQ l)[j]? = some u → (w.alloc (.cells #[] 93)).cell? ((⟨g, 0, none⟩ : Addr).add j) = some u := fun j u hj => by
      have e1 : (⟨g, 0, none⟩ : Addr).add j = ⟨g, j, none⟩ := by unfold Addr.add; split <;> simp_all
      have hjl : j < l.length * 8 := by rw [← flatQ_len]; exact (List.getElem?_eq_some_iff.1 hj).1
      rw [e1, ((Below.refl w.heap.size w).alloc (Nat.le_refl _) _).cell (p := ⟨g, j, none⟩) hgl, hv.cellAt j hjl]
      exact hj
    have HC := Hid.mk hcells
    have hq := run_eql_slice_nil (P := Tryz.prog) w 72 93 (some ⟨g, 0, none⟩) l.length cap 0 0 Tryz.underlying72
    clear hcells hcs htk hg hv
    go_enter Tryz.func86, Tryz.ntmps86
    go_wp2_with (at_builtin; refine wpList_append_own _ rfl _ _ 72 rfl w.heap.size 93 i0 _ 8 64 Tryz.underlying72 hi0 hz0 hz1 hz2 rfl (by decide) _ 0 [] rfl (own_empty w 93 8) ⟨g, 0, none⟩ l.length cap (flatQ l) rfl (flatQ_len l) HC.out (flatQ_one l) (by unfold maxLen; omega) (by omega) (by simp) ?_; intro v2 w2 ho2 hg2 hn2; have HO2 := Hid.mk ho2; have HG2 := Hid.mk hg2; clear ho2 hg2 hn2)
    go_ret
    refine ⟨_, rfl, ?_, ?_⟩
    · have := HO2.out
      rw [Nat.zero_add, List.nil_append] at this
      exact this
    · exact ((Below.refl w.heap.size w).alloc (Nat.le_refl _) _).grown HG2.out (by simp) (fun k hk => by cases hk; exact Nat.le_refl _)

/-- append of one element that lies in a block of its own, as a run. -/
theorem snoc_run {t ty e : TypeId} {z : Value} {sz by' : Nat} (hu : Tryz.prog.underlying t = some (.slice e)) (hinf : (Tryz.prog.info? e).map (fun i => (i.zero, i.size, i.bytes)) = some (some z, sz, by')) (hzs : z.cells.size = sz) (h0 : 0 < sz) (hby : by' ≤ 1000)
    {base : Nat} {w : World} {v : Value} {n : Nat} {xs : List Value} (hown : w.ownsRow base e sz v n xs) (hb : base ≤ w.heap.size) (hn : n ≤ 100000) {cs : Array Value} {bb : Nat} (hlit : w.heap[bb]? = some (.cells cs e (0, 0))) (hcs : cs.size = sz) (h1 : ∀ u ∈ cs.toList, u.oneCell' = true) :
    ∃ v' w', (Builtin.append_ #[t, t] ty #[v, .slice (some ⟨bb, 0, none⟩) 1 1]).run Tryz.prog w = .ok v' w' ∧ w'.ownsRow base e sz v' (n + 1) (xs ++ cs.toList) ∧ Below base w w' ∧ ∀ b, b < w.heap.size → v.ownBlock ≠ some b → w'.heap[b]? = w.heap[b]? := by
  obtain ⟨i0, hi0, hz0, hz1, hz2⟩ := info_get hinf
  have hcell : ∀ j u, cs.toList[j]? = some u → w.cell? ((⟨bb, 0, none⟩ : Addr).add j) = some u := fun j u hj => by
    have e1 : (⟨bb, 0, none⟩ : Addr).add j = ⟨bb, j, none⟩ := by unfold Addr.add; split <;> simp_all
    rw [e1]
    simp only [World.cell?, hlit]
    simpa using hj
  have hby2 : (n + 1) * by' ≤ 140737488355328 := by
    have : (n + 1) * by' ≤ 100001 * 1000 := Nat.mul_le_mul (by omega) hby
    omega
  obtain ⟨v', w', hr, h2, hgr, _⟩ := run_append_own (P := Tryz.prog) w base t ty e i0 z sz by' hu hi0 hz0 hz1 hz2 hzs h0 v n xs hown ⟨bb, 0, none⟩ 1 1 cs.toList (by simp [hcs]) hcell h1 (by unfold maxLen; omega) hby2 hb
  refine ⟨v', w', hr, h2, (Below.refl base w).grown hgr hb (fun k hk => (hown.lt k hk).1), fun b hb' hne => ?_⟩
  exact hgr.block b hb' (fun e' => hne e'.symm)
/-- The same at a step of a region that draws its order. -/
theorem step_snoc {ops : Array Oper} {o : Oper} {a : Act} {K : Act → World → Prop} {Q : Exit → Act → World → Prop} {E : Prop} (hgd : o.guard = none) (s x : Operand) (t : TypeId)
    (ho : o.op = .call { callee := .builtin .append, args := #[s, x], argTypes := #[t, t] }) {e : TypeId} {z : Value} {sz by' : Nat} (hu : Tryz.prog.underlying t = some (.slice e))
    (hinf : (Tryz.prog.info? e).map (fun i => (i.zero, i.size, i.bytes)) = some (some z, sz, by')) (hzs : z.cells.size = sz) (h0 : 0 < sz) (hby : by' ≤ 1000)
    {base : Nat} {w : World} {v : Value} {n : Nat} {xs : List Value} (hs : a.eval s = v) (hown : w.ownsRow base e sz v n xs) (hb : base ≤ w.heap.size) (hn : n ≤ 100000)
    {cs : Array Value} {bb : Nat} (hx : a.eval x = .slice (some ⟨bb, 0, none⟩) 1 1) (hlit : w.heap[bb]? = some (.cells cs e (0, 0))) (hcs : cs.size = sz) (h1 : ∀ u ∈ cs.toList, u.oneCell' = true)
    (h : ∀ v' w', w'.ownsRow base e sz v' (n + 1) (xs ++ cs.toList) → Below base w w' → w.heap.size ≤ w'.heap.size → (∀ b, b < w.heap.size → v.ownBlock ≠ some b → w'.heap[b]? = w.heap[b]?) → K (a.put o.dst v') w') :
    if Region.wanted o (yielded ops a.tmps) = true then Oper.wp Tryz.prog o a w K Q else E := by
  have hw : Region.wanted o (yielded ops a.tmps) = true := by simp [Region.wanted, hgd]
  rw [if_pos hw]
  obtain ⟨v', w', hr, h2, h3, h4⟩ := snoc_run (ty := o.type) hu hinf hzs h0 hby hown hb hn hlit hcs h1
  exact Lib.wp_append_run _ s x t t ho v _ hs hx v' w' hr (h v' w' h2 h3 (h3.size) h4)
theorem World.size_le_alloc (w : World) (o : Obj) : w.heap.size ≤ (w.alloc o).heap.size := by simp
theorem flatQ_snoc (l : List Ask) (x : Ask) : flatQ (l ++ [x]) = flatQ l ++ qcells x := by simp [flatQ]

set_option maxHeartbeats 4000000 in
set_option maxRecDepth 100000 in
theorem With_any {v : Value} {l : List Ask} (b : Ask) {w : World} (hv : w.ownsRow 0 93 8 v l.length (flatQ l)) (hl : l.length < 1000) :
    Calls Tryz.prog 60 #[v, askV b] w fun e w' => ∃ v', e = .returned v' ∧ w'.ownsRow w.heap.size 93 8 v' (l ++ [b]).length (flatQ (l ++ [b])) ∧ Below w.heap.size w w' := by
  have HV := Hid.mk hv
  clear hv
  have HAV := Hid.mk (show askV b = .agg #[.int .i64 b.p, .int .i64 b.file, .int .i64 b.rn.p, .int .i64 b.rn.k, .int .i64 b.rn.f, .int .i64 b.rn.t, ptrV b.ow, .int .i64 b.wk] from rfl)
  rw [HAV.out]
  have HBX := Hid.mk (show b.boxed = .cells #[.int .i64 b.p, .int .i64 b.file, .int .i64 b.rn.p, .int .i64 b.rn.k, .int .i64 b.rn.f, .int .i64 b.rn.t, ptrV b.ow, .int .i64 b.wk] 93 from rfl)
  have hb0 := (Below.refl w.heap.size w).alloc (Nat.le_refl _) b.boxed
  have HK := Hid.mk (fun (W : World) (h : Below (w.heap.size + 1) (w.alloc b.boxed) W) => Clone_any (own_below HV.out (hb0.trans (h.mono (Nat.le_succ _)))) hl)
  have HB0 := Hid.mk hb0
  have HBA := Hid.mk (fun (W : World) (h : Below (w.heap.size + 1) (w.alloc b.boxed) W) => boxed_at h (Nat.lt_succ_self _))
  clear hb0
  rw [HBX.out] at HK HBA HB0
  have HL0 := Hid.mk (show ((w.alloc (.cells #[.int .i64 b.p, .int .i64 b.file, .int .i64 b.rn.p, .int .i64 b.rn.k, .int .i64 b.rn.f, .int .i64 b.rn.t, ptrV b.ow, .int .i64 b.wk] 93)).alloc (.cells #[.int .i64 b.p, .int .i64 b.file, .int .i64 b.rn.p, .int .i64 b.rn.k, .int .i64 b.rn.f, .int .i64 b.rn.t, ptrV b.ow, .int .i64 b.wk] 93)).drew.heap[w.heap.size + 1]? = some (.cells #[.int .i64 b.p, .int .i64 b.file, .int .i64 b.rn.p, .int .i64 b.rn.k, .int .i64 b.rn.f, .int .i64 b.rn.t, ptrV b.ow, .int .i64 b.wk] 93 (0, 0)) from by have hn2 := heap_alloc_new (w.alloc (.cells #[.int .i64 b.p, .int .i64 b.file, .int .i64 b.rn.p, .int .i64 b.rn.k, .int .i64 b.rn.f, .int .i64 b.rn.t, ptrV b.ow, .int .i64 b.wk] 93)) (.cells #[.int .i64 b.p, .int .i64 b.file, .int .i64 b.rn.p, .int .i64 b.rn.k, .int .i64 b.rn.f, .int .i64 b.rn.t, ptrV b.ow, .int .i64 b.wk] 93); simp only [World.size_alloc] at hn2; exact hn2)
  have HN : Hid (l.length ≤ 100000) := by exact Nat.le_of_lt (Nat.lt_of_lt_of_le hl (by decide))
  clear HAV HBX
  go_enter Tryz.func60, Tryz.ntmps60
  go_wp2_with fail
  unfold ptrV at *
  generalize hA : b.ow.map (fun b => (⟨b, 0, none⟩ : Addr)) = A at *
  have HA := Hid.mk hA
  clear hA
  go_region_held3 (fun u => u.cell? ⟨w.heap.size, 0, none⟩ = some (.int .i64 b.p) ∧ u.cell? ⟨w.heap.size, 1, none⟩ = some (.int .i64 b.file) ∧ u.cell? ⟨w.heap.size, 2, none⟩ = some (.int .i64 b.rn.p) ∧ u.cell? ⟨w.heap.size, 3, none⟩ = some (.int .i64 b.rn.k) ∧ u.cell? ⟨w.heap.size, 4, none⟩ = some (.int .i64 b.rn.f) ∧ u.cell? ⟨w.heap.size, 5, none⟩ = some (.int .i64 b.rn.t) ∧ u.cell? ⟨w.heap.size, 6, none⟩ = some (.pointer A) ∧ u.cell? ⟨w.heap.size, 7, none⟩ = some (.int .i64 b.wk)) (simp [go_sem, World.cell?_alloc_past, *])
    (first
      | (go_at_call 86; refine (HK.out _ ((Below.refl (w.heap.size + 1) (w.alloc (.cells #[.int .i64 b.p, .int .i64 b.file, .int .i64 b.rn.p, .int .i64 b.rn.k, .int .i64 b.rn.f, .int .i64 b.rn.t, .pointer A, .int .i64 b.wk] 93))).drew)).mono ?_; rintro e w1 ⟨v1, rfl, ho1, hb1⟩; have HO1 := Hid.mk ho1; have HB1 := Hid.mk hb1; obtain ⟨e0, e1, e2, e3, e4, e5, e6, e7⟩ := HBA.out w1 (((Below.refl (w.heap.size + 1) (w.alloc (.cells #[.int .i64 b.p, .int .i64 b.file, .int .i64 b.rn.p, .int .i64 b.rn.k, .int .i64 b.rn.f, .int .i64 b.rn.t, .pointer A, .int .i64 b.wk] 93))).drew).trans (hb1.mono (by simp))); have hz1 := hb1.size; have HSZ := Hid.mk hz1; have HSA := Hid.mk (Nat.le_trans hz1 (World.size_le_alloc w1 (.cells #[.int .i64 b.p, .int .i64 b.file, .int .i64 b.rn.p, .int .i64 b.rn.k, .int .i64 b.rn.f, .int .i64 b.rn.t, .pointer A, .int .i64 b.wk] 93))); simp at hz1; have hww : w.heap.size < w1.heap.size := (by omega); clear ho1 hb1)
      | (go_at_call 86; refine (HK.out _ (((Below.refl (w.heap.size + 1) (w.alloc (.cells #[.int .i64 b.p, .int .i64 b.file, .int .i64 b.rn.p, .int .i64 b.rn.k, .int .i64 b.rn.f, .int .i64 b.rn.t, .pointer A, .int .i64 b.wk] 93))).alloc (by simp) (.cells #[.int .i64 b.p, .int .i64 b.file, .int .i64 b.rn.p, .int .i64 b.rn.k, .int .i64 b.rn.f, .int .i64 b.rn.t, .pointer A, .int .i64 b.wk] 93)).drew)).mono ?_; rintro e w1 ⟨v1, rfl, ho1, hb1⟩; have HO1 := Hid.mk ho1; have HB1 := Hid.mk hb1; obtain ⟨e0, e1, e2, e3, e4, e5, e6, e7⟩ := HBA.out w1 ((((Below.refl (w.heap.size + 1) (w.alloc (.cells #[.int .i64 b.p, .int .i64 b.file, .int .i64 b.rn.p, .int .i64 b.rn.k, .int .i64 b.rn.f, .int .i64 b.rn.t, .pointer A, .int .i64 b.wk] 93))).alloc (by simp) (.cells #[.int .i64 b.p, .int .i64 b.file, .int .i64 b.rn.p, .int .i64 b.rn.k, .int .i64 b.rn.f, .int .i64 b.rn.t, .pointer A, .int .i64 b.wk] 93)).drew).trans (hb1.mono (by simp))); have hz1 := hb1.size; have HSZ := Hid.mk hz1; have HSA := Hid.mk (Nat.le_trans hz1 (World.size_le_alloc w1 (.cells #[.int .i64 b.p, .int .i64 b.file, .int .i64 b.rn.p, .int .i64 b.rn.k, .int .i64 b.rn.f, .int .i64 b.rn.t, .pointer A, .int .i64 b.wk] 93))); simp at hz1; have hww : w.heap.size < w1.heap.size := (by omega); have HL2 := Hid.mk ((hb1.block (w.heap.size + 1) (by simp)).trans HL0.out); clear ho1 hb1)
      | ((refine step_snoc (by rfl) _ _ _ (by rfl) Tryz.underlying72 Tryz.infoAsk (by rfl) (by decide) (by decide) (by rfl) (HO1.out.alloc _) HSA.out HN.out (cs := #[.int .i64 b.p, .int .i64 b.file, .int .i64 b.rn.p, .int .i64 b.rn.k, .int .i64 b.rn.f, .int .i64 b.rn.t, .pointer A, .int .i64 b.wk]) (by rfl) (heap_alloc_new w1 _) (by rfl) (by simp [Value.oneCell']) ?_; intro v2 w2 ho2 hb2 hz2 hk2; have HO2 := Hid.mk ho2; have HB2 := Hid.mk hb2; have hbk := (hk2 w.heap.size (Nat.lt_of_lt_of_le hww (by simp)) (fun e => by have := (HO1.out.lt _ e).1; simp at this; omega)).trans (Below.heap_alloc _ _ _ hww); have k0 := (World.cell?_of_block (a := ⟨w.heap.size, 0, none⟩) hbk).trans e0; have k1 := (World.cell?_of_block (a := ⟨w.heap.size, 1, none⟩) hbk).trans e1; have k2 := (World.cell?_of_block (a := ⟨w.heap.size, 2, none⟩) hbk).trans e2; have k3 := (World.cell?_of_block (a := ⟨w.heap.size, 3, none⟩) hbk).trans e3; have k4 := (World.cell?_of_block (a := ⟨w.heap.size, 4, none⟩) hbk).trans e4; have k5 := (World.cell?_of_block (a := ⟨w.heap.size, 5, none⟩) hbk).trans e5; have k6 := (World.cell?_of_block (a := ⟨w.heap.size, 6, none⟩) hbk).trans e6; have k7 := (World.cell?_of_block (a := ⟨w.heap.size, 7, none⟩) hbk).trans e7; clear ho2 hb2 hk2 hbk))
      | ((refine step_snoc (by rfl) _ _ _ (by rfl) Tryz.underlying72 Tryz.infoAsk (by rfl) (by decide) (by decide) (by rfl) HO1.out HSZ.out HN.out (cs := #[.int .i64 b.p, .int .i64 b.file, .int .i64 b.rn.p, .int .i64 b.rn.k, .int .i64 b.rn.f, .int .i64 b.rn.t, .pointer A, .int .i64 b.wk]) (by rfl) HL2.out (by rfl) (by simp [Value.oneCell']) ?_; intro v2 w2 ho2 hb2 hz2 hk2; have HO2 := Hid.mk ho2; have HB2 := Hid.mk hb2; have hbk := hk2 w.heap.size hww (fun e => by have := (HO1.out.lt _ e).1; simp at this; omega); have k0 := (World.cell?_of_block (a := ⟨w.heap.size, 0, none⟩) hbk).trans e0; have k1 := (World.cell?_of_block (a := ⟨w.heap.size, 1, none⟩) hbk).trans e1; have k2 := (World.cell?_of_block (a := ⟨w.heap.size, 2, none⟩) hbk).trans e2; have k3 := (World.cell?_of_block (a := ⟨w.heap.size, 3, none⟩) hbk).trans e3; have k4 := (World.cell?_of_block (a := ⟨w.heap.size, 4, none⟩) hbk).trans e4; have k5 := (World.cell?_of_block (a := ⟨w.heap.size, 5, none⟩) hbk).trans e5; have k6 := (World.cell?_of_block (a := ⟨w.heap.size, 6, none⟩) hbk).trans e6; have k7 := (World.cell?_of_block (a := ⟨w.heap.size, 7, none⟩) hbk).trans e7; clear ho2 hb2 hk2 hbk)))
  all_goals go_wp2
  all_goals go_ret
  all_goals refine ⟨_, rfl, ?_, ?_⟩
  all_goals have hq : qcells b = (#[.int .i64 b.p, .int .i64 b.file, .int .i64 b.rn.p, .int .i64 b.rn.k, .int .i64 b.rn.f, .int .i64 b.rn.t, .pointer A, .int .i64 b.wk] : Array Value).toList := by simp [qcells, ptrV, HA.out]
  · rw [flatQ_snoc, hq]
    exact own_mono HO2.out (by simp)
  · exact (((HB0.out.drew).trans (HB1.out.mono (by simp))).alloc (by omega) _).trans (HB2.out.mono (by simp))
  · rw [flatQ_snoc, hq]
    exact own_mono HO2.out (by simp; omega)
  · exact (((HB0.out.alloc (by simp) _).drew).trans (HB1.out.mono (by simp; omega))).trans (HB2.out.mono (by simp; omega))
end Go.Proofs.YtaicdjhblbobbabGreat

/- Contracts of package queue, on: without one process. -/
namespace Go.Proofs.YtaicdjhblbobbabGreat
open Go.RowKit Go.Lib

/-- Where the first is of which f holds; -1: nowhere. -/
def idxF {α : Type} (l : List α) (f : α → Bool) : Int := match l.findIdx? f with | some i => (i : Int) | none => -1
theorem idxF_hit {α : Type} {l : List α} {f : α → Bool} {n : Nat} {x : α} (hx : l[n]? = some x) (hf : f x = true) (h : ∀ (j : Nat) (y : α), j < n → l[j]? = some y → f y = false) : idxF l f = (n : Int) := by
  have hn : n < l.length := (List.getElem?_eq_some_iff.1 hx).1
  have : l.findIdx? f = some n := List.findIdx?_eq_some_iff_getElem.2 ⟨hn, by rw [(List.getElem?_eq_some_iff.1 hx).2]; exact hf, fun j hj => by rw [h j _ hj (List.getElem?_eq_getElem (by omega))]; decide⟩
  unfold idxF; rw [this]
theorem idxF_miss {α : Type} {l : List α} {f : α → Bool} (h : ∀ (j : Nat) (y : α), l[j]? = some y → f y = false) : idxF l f = -1 := by
  have : l.findIdx? f = none := by
    rw [List.findIdx?_eq_none_iff]
    intro x hx
    obtain ⟨j, hj⟩ := List.mem_iff_getElem?.1 hx
    exact h j x hj
  unfold idxF; rw [this]

set_option maxHeartbeats 4000000 in
set_option maxRecDepth 100000 in
theorem qIndexFunc_any {v : Value} {l : List Ask} (f : Ask → Bool) {w : World} {B : Nat} (hB : B ≤ w.heap.size) (g : Nat) (lb : Array Value) (eg : ∀ args w, (callFunc g args).run Tryz.prog w = .ok (.enter g args) w)
    (hv : w.ownsRow B 93 8 v l.length (flatQ l)) (hl : l.length < 1000)
    (hp : ∀ (W : World) (x : Ask), Below B w W → Calls Tryz.prog g (#[askV x] ++ lb) W fun e w' => e = .returned (.bool (f x)) ∧ Below W.heap.size W w') :
    Calls Tryz.prog 109 #[v, .func (.func g) #[] lb] w fun e w' => e = .returned (.int .i64 (idxF l f)) ∧ Below w.heap.size w w' := by
  obtain ⟨a, c, rfl⟩ := own_form hv
  have HV := Hid.mk hv
  have HP := Hid.mk hp
  clear hv hp
  go_enter Tryz.func109, Tryz.ntmps109
  go_wp2
  go_loopw [5, 8] (fun _ s8 wr => ∃ n : Nat, s8 = .int .i64 n ∧ n ≤ l.length ∧ Hid (∀ (j : Nat) (y : Ask), j < n → l[j]? = some y → f y = false) ∧ Hid (Below w.heap.size w wr)) (fun _ s8 _ => l.length - (intOf s8).toNat)
  case atStart => exact ⟨0, rfl, Nat.zero_le _, fun j y hj => absurd hj (Nat.not_lt_zero _), Below.refl _ _⟩
  case round =>
    obtain ⟨n, rfl, hn, HF, HB⟩ := hrel
    have hsz : w.heap.size ≤ wr.heap.size := HB.out.size
    by_cases hlt : n < l.length
    · obtain ⟨x, hx⟩ : ∃ x, l[n]? = some x := ⟨_, List.getElem?_eq_getElem hlt⟩
      obtain ⟨gb, rfl, _, hg, _, hat⟩ := askAt HV.out hx
      obtain ⟨c0, c1, c2, c3, c4, c5, c6, c7⟩ := hat.below HB.out hg
      have hlt' : (n : Int) < (l.length : Int) := by omega
      have hgw : gb < wr.heap.size := by omega
      have HC := Hid.mk (HP.out wr x (HB.out.mono hB))
      have HX := Hid.mk hx
      unfold askV at HC
      clear hat hx
      unfold ptrV at *
      generalize x.ow.map (fun b => (⟨b, 0, none⟩ : Addr)) = A at *
      cases hbt : f x
      · have HT := Hid.mk hbt
        rw [hbt] at HC
        clear hbt
        go_wp2_with (go_at_fn g; refine HC.out.mono ?_; rintro e w1 ⟨rfl, hb2⟩; have HB2 := Hid.mk hb2; clear hb2)
        go_roundw
        case rel =>
          refine ⟨n + 1, by go_num, by omega, fun j y hj hy => ?_, HB.out.trans (HB2.out.mono hsz)⟩
          by_cases e : j = n
          · subst e
            rw [HX.out] at hy
            cases hy
            exact HT.out
          · exact HF.out j y (by omega) hy
        case measure => simp [intOf]; omega
      · have HT := Hid.mk hbt
        rw [hbt] at HC
        clear hbt
        go_wp2_with (go_at_fn g; refine HC.out.mono ?_; rintro e w1 ⟨rfl, hb2⟩; have HB2 := Hid.mk hb2; clear hb2)
        go_ret
        exact ⟨ret_i64 (idxF_hit HX.out HT.out HF.out).symm, HB.out.trans (HB2.out.mono hsz)⟩
    · obtain rfl : n = l.length := by omega
      go_wp2
      go_ret
      exact ⟨ret_i64 (idxF_miss fun j y hy => HF.out j y (List.getElem?_eq_some_iff.1 hy).1 hy).symm, HB.out⟩

/-- Cells laid one after the other. -/
def setL (xs : List Value) : Nat → List Value → List Value
  | _, [] => xs
  | o, v :: r => setL (xs.set o v) (o + 1) r
theorem setL_len : ∀ (vs : List Value) (xs : List Value) (o : Nat), (setL xs o vs).length = xs.length
  | [], xs, o => rfl
  | v :: r, xs, o => by unfold setL; rw [setL_len r]; simp
theorem setL_get : ∀ (vs : List Value) (xs : List Value) (o j : Nat), o + vs.length ≤ xs.length → (setL xs o vs)[j]? = if o ≤ j ∧ j < o + vs.length then vs[j - o]? else xs[j]?
  | [], xs, o, j, _ => by
    unfold setL
    rw [if_neg (by simp)]
  | v :: r, xs, o, j, h => by
    simp only [List.length_cons] at h ⊢
    unfold setL
    rw [setL_get r (xs.set o v) (o + 1) j (by simp; omega)]
    by_cases h1 : o + 1 ≤ j ∧ j < o + 1 + r.length
    · rw [if_pos h1, if_pos (by omega), show j - o = j - (o + 1) + 1 by omega, List.getElem?_cons_succ]
    · rw [if_neg h1]
      by_cases h2 : j = o
      · subst h2
        rw [if_pos (by omega), List.getElem?_set_self (by omega)]
        simp
      · rw [if_neg (by omega), List.getElem?_set_ne (by omega)]
theorem flatQ_set {l : List Ask} {i : Nat} (hi : i < l.length) (x : Ask) : setL (flatQ l) (i * 8) (qcells x) = flatQ (l.set i x) := by
  apply List.ext_getElem?
  intro j
  have hlen := flatQ_len l
  rw [setL_get _ _ _ _ (by rw [hlen, qcells_len]; omega), qcells_len]
  by_cases hj : j < l.length * 8
  · have h8 : j / 8 < l.length := by omega
    have hj8 : j = j / 8 * 8 + j % 8 := by omega
    have hm : j % 8 < 8 := Nat.mod_lt _ (by decide)
    by_cases hij : j / 8 = i
    · rw [if_pos (by omega)]
      have := flat_get qcells 8 qcells_len (l.set i x) (j / 8) (j % 8) x (by rw [hij]; simp [hi]) hm
      have e : j - i * 8 = j % 8 := by omega
      rw [e, ← this]
      unfold flatQ
      rw [← hj8]
    · rw [if_neg (by omega)]
      obtain ⟨y, hy⟩ : ∃ y, l[j / 8]? = some y := ⟨_, List.getElem?_eq_getElem h8⟩
      have h1 := flat_get qcells 8 qcells_len l (j / 8) (j % 8) y hy hm
      have h2 := flat_get qcells 8 qcells_len (l.set i x) (j / 8) (j % 8) y (by rw [List.getElem?_set_ne (by omega)]; exact hy) hm
      rw [← hj8] at h1 h2
      unfold flatQ
      rw [h1, h2]
  · rw [if_neg (by omega), List.getElem?_eq_none (by omega), List.getElem?_eq_none (by rw [flatQ_len]; simp; omega)]
theorem own_setCells {base : Nat} {e : TypeId} {sz g n cap : Nat} : ∀ (vs : List Value) (o : Nat) (w : World) (xs : List Value), w.ownsRow base e sz (.slice (some ⟨g, 0, none⟩) n cap) n xs → o + vs.length ≤ n * sz → (w.setCells g o vs).ownsRow base e sz (.slice (some ⟨g, 0, none⟩) n cap) n (setL xs o vs)
  | [], o, w, xs, h, _ => h
  | v :: r, o, w, xs, h, hl => own_setCells r (o + 1) _ _ (h.stored o v).1 (by simp at hl; omega)
theorem own_cut {w : World} {base : Nat} {e : TypeId} {sz g n cap : Nat} {xs : List Value} (h : w.ownsRow base e sz (.slice (some ⟨g, 0, none⟩) n cap) n xs) {k : Nat} (hk : k ≤ n) : w.ownsRow base e sz (.slice (some ⟨g, 0, none⟩) k cap) k (xs.take (k * sz)) := by
  have hks : k * sz ≤ n * sz := Nat.mul_le_mul_right _ hk
  refine ⟨by rw [List.length_take, h.1]; omega, ?_⟩
  rcases h.2 with ⟨hv, _⟩ | ⟨g', cap', cur, hv, hg, hblk, hn, hm, hs, ht⟩
  · cases hv
  · cases hv
    refine Or.inr ⟨g, cap, cur, rfl, hg, hblk, by omega, hm, hs, ?_⟩
    rw [← ht, List.take_take, Nat.min_eq_left hks]
theorem below_setCells {B g : Nat} (hg : B ≤ g) : ∀ (vs : List Value) (o : Nat) (w0 w : World), Below B w0 w → Below B w0 (w.setCells g o vs)
  | [], _, _, _, h => h
  | v :: r, o, w0, w, h => below_setCells hg r (o + 1) w0 _ ⟨h.os, h.tape, h.output, by simpa using h.size, fun k hk => (Below.heap_setCell _ _ _ _ (by simp; omega)).trans (h.block k hk)⟩

/-- clear of what is left of a row. -/
theorem run_clear_row {w : World} {base g n cap i : Nat} {xs : List Value} (h : w.ownsRow base 93 8 (.slice (some ⟨g, 0, none⟩) n cap) n xs) (hi : i < n) (c : Nat) :
    ∃ zs : List Value, zs.length = (n - i) * 8 ∧ ∀ ty, (Builtin.clear_ #[72] ty #[.slice (some ⟨g, i * 8, none⟩) (n - i) c]).run Tryz.prog w = .ok (.tuple #[]) (w.setCells g (i * 8) zs) := by
  refine ⟨(Builtin.zeroCells #[.int .i64 0, .int .i64 0, .int .i64 0, .int .i64 0, .int .i64 0, .int .i64 0, .pointer none, .int .i64 0] (n - i)).toList, ?_, ?_⟩
  · simp [Builtin.zeroCells]
  · intro ty
    have hlen : (Builtin.zeroCells #[.int .i64 0, .int .i64 0, .int .i64 0, .int .i64 0, .int .i64 0, .int .i64 0, .pointer none, .int .i64 0] (n - i)).toList.length = (n - i) * 8 := by simp [Builtin.zeroCells]
    have hst := run_storeCells_cells (P := Tryz.prog) g (i * 8) (Builtin.zeroCells #[.int .i64 0, .int .i64 0, .int .i64 0, .int .i64 0, .int .i64 0, .int .i64 0, .pointer none, .int .i64 0] (n - i)).toList 0 w (fun j hj => by
        rw [hlen] at hj
        rw [h.cellAt (i * 8 + 0 + j) (by omega)]
        have := h.1
        rw [List.getElem?_eq_getElem (by omega)]
        rfl) (fun j hj => h.frozenAt _) (fun v hv => by
        simp only [Builtin.zeroCells] at hv
        simp at hv
        obtain ⟨a, ha, rfl⟩ := hv
        have h8 : a % 8 < 8 := Nat.mod_lt _ (by decide)
        generalize a % 8 = q at *
        match q, h8 with
        | 0, _ | 1, _ | 2, _ | 3, _ | 4, _ | 5, _ | 6, _ | 7, _ => rfl)
    simp only [Nat.add_zero] at hst
    obtain ⟨m, hm⟩ : ∃ m, n - i = m + 1 := ⟨n - i - 1, by omega⟩
    rw [hm] at hst ⊢
    simp [Builtin.clear_, run_underlying Tryz.underlying72, Value.cells, hst]
/-- How far DeleteFunc has come: of the first j those that stay lie in front; what is behind is as it was. -/
structure DelInv (l : List Ask) (f : Ask → Bool) (i j : Nat) (cur : List Ask) : Prop where
  len : cur.length = l.length
  lt : i < j
  le : j ≤ l.length
  front : cur.take i = (l.take j).filter fun x => !f x
  rest : ∀ k, j ≤ k → cur[k]? = l[k]?
theorem DelInv.start {l : List Ask} {f : Ask → Bool} {i : Nat} (h : idxF l f = (i : Int)) : DelInv l f i (i + 1) l := by
  unfold idxF at h
  cases hf : l.findIdx? f with
  | none =>
    rw [hf] at h
    have h' : (-1 : Int) = i := h
    omega
  | some n =>
    rw [hf] at h
    have h' : (n : Int) = i := h
    obtain rfl : n = i := by omega
    obtain ⟨hn, h1, h2⟩ := List.findIdx?_eq_some_iff_getElem.1 hf
    refine ⟨rfl, Nat.lt_succ_self _, hn, ?_, fun _ _ => rfl⟩
    rw [List.take_add_one, List.getElem?_eq_getElem hn, List.filter_append]
    have e1 : (l.take n).filter (fun x => !f x) = l.take n := List.filter_eq_self.2 fun x hx => by
      obtain ⟨j, hj⟩ := List.mem_iff_getElem?.1 hx
      rw [List.getElem?_take] at hj
      split at hj
      · rename_i hlt
        have := h2 j hlt
        rw [(List.getElem?_eq_some_iff.1 hj).2] at this
        simpa using this
      · cases hj
    simp [e1, h1]
theorem DelInv.skip {l : List Ask} {f : Ask → Bool} {i j : Nat} {cur : List Ask} (h : DelInv l f i j cur) {x : Ask} (hx : l[j]? = some x) (hf : f x = true) : DelInv l f i (j + 1) cur := by
  have hj : j < l.length := (List.getElem?_eq_some_iff.1 hx).1
  have hl := h.lt
  refine ⟨h.len, by omega, hj, ?_, fun k hk => h.rest k (by omega)⟩
  rw [h.front, List.take_add_one, hx, List.filter_append]
  simp [hf]
theorem DelInv.keep {l : List Ask} {f : Ask → Bool} {i j : Nat} {cur : List Ask} (h : DelInv l f i j cur) {x : Ask} (hx : l[j]? = some x) (hf : f x = false) : DelInv l f (i + 1) (j + 1) (cur.set i x) := by
  have hj : j < l.length := (List.getElem?_eq_some_iff.1 hx).1
  have hl := h.lt
  have hlen := h.len
  refine ⟨by simp [hlen], by omega, hj, ?_, fun k hk => ?_⟩
  · rw [List.take_add_one, List.getElem?_set_self (by omega), List.take_set_of_le (Nat.le_refl _), h.front, List.take_add_one, hx, List.filter_append]
    simp [hf]
  · rw [List.getElem?_set_ne (by omega)]
    exact h.rest k (by omega)
theorem DelInv.done {l : List Ask} {f : Ask → Bool} {i : Nat} {cur : List Ask} (h : DelInv l f i l.length cur) : cur.take i = l.filter fun x => !f x := by
  rw [h.front, List.take_of_length_le (Nat.le_refl _)]
theorem DelInv.flat {l : List Ask} {i : Nat} (hi : i ≤ l.length) : (flatQ l).take (i * 8) = flatQ (l.take i) := by
  conv => lhs; rw [← List.take_append_drop i l]
  unfold flatQ
  rw [List.flatMap_append, List.take_append_of_le_length (by rw [flat_len qcells 8 qcells_len]; simp; omega), List.take_of_length_le (by rw [flat_len qcells 8 qcells_len]; simp; omega)]

set_option maxHeartbeats 8000000 in
set_option maxRecDepth 100000 in
theorem DeleteFunc_any {v : Value} {l : List Ask} (f : Ask → Bool) {w : World} {B : Nat} (hB : B ≤ w.heap.size) (g : Nat) (lb : Array Value) (eg : ∀ args w, (callFunc g args).run Tryz.prog w = .ok (.enter g args) w)
    (hv : w.ownsRow B 93 8 v l.length (flatQ l)) (hl : l.length < 1000)
    (hp : ∀ (W : World) (x : Ask), Below B w W → Calls Tryz.prog g (#[askV x] ++ lb) W fun e w' => e = .returned (.bool (f x)) ∧ Below W.heap.size W w') :
    Calls Tryz.prog 88 #[v, .func (.func g) #[] lb] w fun e w' => ∃ v', e = .returned v' ∧ w'.ownsRow B 93 8 v' (l.filter fun x => !f x).length (flatQ (l.filter fun x => !f x)) ∧ Below B w w' := by
  have HI := Hid.mk (qIndexFunc_any f hB g lb eg hv hl hp)
  obtain ⟨a, c, rfl⟩ := own_form hv
  have HV := Hid.mk hv
  have HP := Hid.mk hp
  clear hv hp
  by_cases hnone : idxF l f = -1
  · have HE : Hid ((l.filter fun x => !f x) = l) := List.filter_eq_self.2 fun x hx => by
      unfold idxF at hnone
      cases hf : l.findIdx? f with
      | some n => rw [hf] at hnone; have h' : (n : Int) = -1 := hnone; omega
      | none => simpa using (List.findIdx?_eq_none_iff.1 hf) x hx
    rw [hnone] at HI
    clear hnone
    go_enter Tryz.func88, Tryz.ntmps88
    go_wp2_with (go_at_call 109; refine HI.out.mono ?_; rintro e w1 ⟨rfl, hb1⟩; have HB1 := Hid.mk hb1; clear hb1)
    go_ret
    refine ⟨_, rfl, ?_, HB1.out.mono hB⟩
    rw [HE.out]
    exact own_below HV.out HB1.out
  · obtain ⟨i0, hi0⟩ : ∃ i0 : Nat, idxF l f = (i0 : Int) := by
      unfold idxF at hnone ⊢
      cases hf : l.findIdx? f with
      | none => rw [hf] at hnone; exact absurd rfl hnone
      | some n => exact ⟨n, rfl⟩
    have HS := Hid.mk (DelInv.start hi0)
    rw [hi0] at HI
    have hne : ¬ (i0 : Int) = -1 := by omega
    have hlen0 : i0 < 1000 := by have := HS.out.le; omega
    clear hnone hi0
    obtain ⟨gb, rfl, hgB, hg, hnc, _⟩ := own_some HV.out (by have := HS.out.le; omega)
    have hlI : (l.length : Int) < 1000 := by omega
    go_enter Tryz.func88, Tryz.ntmps88
    go_wp2_with (go_at_call 109; refine HI.out.mono ?_; rintro e w1 ⟨rfl, hb1⟩; have HB1 := Hid.mk hb1; clear hb1)
    go_loopw [5, 6] (fun s5 s6 wr => ∃ (i j : Nat) (cur : List Ask), s5 = .int .i64 i ∧ s6 = .int .i64 j ∧ Hid (DelInv l f i j cur) ∧ Hid (wr.ownsRow B 93 8 (.slice (some ⟨gb, 0, none⟩) l.length c) l.length (flatQ cur)) ∧ Hid (Below B w wr)) (fun _ s6 _ => l.length - (intOf s6).toNat)
    case atStart => exact ⟨i0, i0 + 1, l, rfl, by go_num, HS.out, own_below HV.out HB1.out, HB1.out.mono hB⟩
    case round =>
      obtain ⟨i, j, cur, rfl, rfl, HD, HO, HB⟩ := hrel
      have hij := HD.out.lt
      have hjl := HD.out.le
      have hcl := HD.out.len
      have hgw : gb < wr.heap.size := (HO.out.lt gb rfl).2
      by_cases hlt : j < l.length
      · obtain ⟨x, hx⟩ : ∃ x, l[j]? = some x := ⟨_, List.getElem?_eq_getElem hlt⟩
        obtain ⟨y, hy⟩ : ∃ y, cur[i]? = some y := ⟨_, List.getElem?_eq_getElem (by omega)⟩
        have hxc : cur[j]? = some x := (HD.out.rest j (Nat.le_refl _)).trans hx
        have hO' : wr.ownsRow B 93 8 (.slice (some ⟨gb, 0, none⟩) cur.length c) cur.length (flatQ cur) := by rw [hcl]; exact HO.out
        obtain ⟨_, e1, _, _, _, hat⟩ := askAt hO' hxc
        cases e1
        obtain ⟨_, e1, _, _, _, hay⟩ := askAt hO' hy
        cases e1
        have HAY := Hid.mk hay
        obtain ⟨c0, c1, c2, c3, c4, c5, c6, c7⟩ := hat
        have hlt' : (j : Int) < (l.length : Int) := by omega
        have hi' : (i : Int) < (l.length : Int) := by omega
        have hb2 := (Below.refl wr.heap.size wr).alloc (Nat.le_refl _) x.boxed
        have HC := Hid.mk (HP.out (wr.alloc x.boxed) x (HB.out.alloc (by have := HB.out.size; omega) _))
        unfold askV at HC
        unfold Ask.boxed at HC hb2
        have HX := Hid.mk hx
        have HB2 := Hid.mk hb2
        have HQC := Hid.mk (show qcells x = [.int .i64 x.p, .int .i64 x.file, .int .i64 x.rn.p, .int .i64 x.rn.k, .int .i64 x.rn.f, .int .i64 x.rn.t, ptrV x.ow, .int .i64 x.wk] from rfl)
        clear hx hy hxc hO' hay hb2
        unfold ptrV at *
        generalize x.ow.map (fun b => (⟨b, 0, none⟩ : Addr)) = A at *
        cases hbt : f x
        · have HT := Hid.mk hbt
          rw [hbt] at HC
          clear hbt
          go_wp2_with (go_at_fn g; refine HC.out.mono ?_; rintro e w2 ⟨rfl, hb3⟩; have HB3 := Hid.mk (HB2.out.trans (hb3.mono (by simp))); have hcc := (bcells hb3).1; have b0 := hcc wr.heap.size 0 (by simp); have b1 := hcc wr.heap.size 1 (by simp); have b2 := hcc wr.heap.size 2 (by simp); have b3 := hcc wr.heap.size 3 (by simp); have b4 := hcc wr.heap.size 4 (by simp); have b5 := hcc wr.heap.size 5 (by simp); have b6 := hcc wr.heap.size 6 (by simp); have b7 := hcc wr.heap.size 7 (by simp); simp at b0 b1 b2 b3 b4 b5 b6 b7; obtain ⟨y0, y1, y2, y3, y4, y5, y6, y7⟩ := HAY.out.below HB3.out hgw; have HO2 := Hid.mk (own_below HO.out HB3.out); have z0 := HO2.out.frozenAt (i * 8); have z1 := HO2.out.frozenAt (i * 8 + 1); have z2 := HO2.out.frozenAt (i * 8 + 2); have z3 := HO2.out.frozenAt (i * 8 + 3); have z4 := HO2.out.frozenAt (i * 8 + 4); have z5 := HO2.out.frozenAt (i * 8 + 5); have z6 := HO2.out.frozenAt (i * 8 + 6); have z7 := HO2.out.frozenAt (i * 8 + 7); clear hb3 hcc)
          go_roundw
          case rel =>
            have hst := own_setCells (qcells x) (i * 8) w2 (flatQ cur) HO2.out (by rw [qcells_len]; omega)
            rw [flatQ_set (by omega) x, HQC.out] at hst
            have hbl := below_setCells hgB (qcells x) (i * 8) w w2 (HB.out.trans (HB3.out.mono (by have := HB.out.size; omega)))
            rw [HQC.out] at hbl
            simp only [World.setCells, Nat.add_assoc, Nat.reduceAdd] at hst hbl
            refine ⟨_, _, _, _, _, _, _, _, _, _, _, _, _, _, _, _, _, _, _, _, _, _, _, ⟨i + 1, j + 1, cur.set i x, ?a1, ?a2, HD.out.keep HX.out HT.out, hst, hbl⟩, rfl⟩
            all_goals go_num
          case measure => simp [intOf]; omega
        · have HT := Hid.mk hbt
          rw [hbt] at HC
          clear hbt
          go_wp2_with (go_at_fn g; refine HC.out.mono ?_; rintro e w2 ⟨rfl, hb3⟩; have HB3 := Hid.mk (HB2.out.trans (hb3.mono (by simp))); clear hb3)
          go_roundw
          case rel =>
            refine ⟨_, _, _, _, _, _, _, _, _, _, _, _, _, _, _, _, _, _, _, _, _, _, _, ?r, rfl⟩
            exact ⟨i, j + 1, cur, by go_num, by go_num, HD.out.skip HX.out HT.out, own_below HO.out HB3.out, HB.out.trans (HB3.out.mono (by have := HB.out.size; omega))⟩
          case measure => simp [intOf]; omega
      · obtain rfl : j = l.length := by omega
        have hic : i < c := by omega
        obtain ⟨zs, hzl, hclr⟩ := run_clear_row HO.out hij (c - i)
        have HZ := Hid.mk hzl
        have hi' : (i : Int) < (l.length : Int) := by omega
        have hic' : (i : Int) < (c : Int) := by omega
        clear hzl
        go_wp2
        go_ret
        refine ⟨_, rfl, ?_, below_setCells hgB zs (i * 8) w wr HB.out⟩
        have hset := own_cut (own_setCells zs (i * 8) wr (flatQ cur) HO.out (by rw [HZ.out]; omega)) (k := i) (by omega)
        have hlen := flatQ_len cur
        have e1 : (setL (flatQ cur) (i * 8) zs).take (i * 8) = flatQ (l.filter fun x => !f x) := by
          rw [← HD.out.done, ← DelInv.flat (by omega)]
          apply List.ext_getElem?
          intro k
          rw [List.getElem?_take, List.getElem?_take]
          split
          · rw [setL_get _ _ _ _ (by rw [HZ.out, hlen]; omega), if_neg (by omega)]
          · rfl
        have e2 : (l.filter fun x => !f x).length = i := by rw [← HD.out.done, List.length_take]; omega
        rw [e1] at hset
        rw [e2]
        exact hset

set_option maxHeartbeats 1000000 in
set_option maxRecDepth 100000 in
theorem without1_any (x : Ask) (p : Int) (B : Nat) (W : World) (hB : B < W.heap.size) (hc : W.cell? ⟨B, 0, none⟩ = some (.int .i64 p)) :
    Calls Tryz.prog 89 (#[askV x] ++ #[.pointer (some ⟨B, 0, none⟩)]) W fun e w' => e = .returned (.bool (decide (x.p = p))) ∧ Below W.heap.size W w' := by
  unfold askV
  show Calls Tryz.prog 89 #[_, _] W _
  unfold ptrV
  generalize x.ow.map (fun b => (⟨b, 0, none⟩ : Addr)) = A at *
  go_enter Tryz.func89, Tryz.ntmps89
  go_wp2
  go_ret
  exact ⟨ret_bool (by rw [Bool.eq_iff_iff]; simp), (Below.refl _ _).alloc (Nat.le_refl _) _⟩

set_option maxHeartbeats 2000000 in
set_option maxRecDepth 100000 in
theorem qWithout_any {v : Value} {l : List Ask} (p : Int) {w : World} (hv : w.ownsRow 0 93 8 v l.length (flatQ l)) (hl : l.length < 1000) :
    Calls Tryz.prog 65 #[v, .int .i64 p] w fun e w' => ∃ v', e = .returned v' ∧ w'.ownsRow w.heap.size 93 8 v' (l.filter fun a => decide (a.p ≠ p)).length (flatQ (l.filter fun a => decide (a.p ≠ p))) ∧ Below w.heap.size w w' := by
  have hb0 := (Below.refl w.heap.size w).alloc (Nat.le_refl _) (.cells #[.int .i64 p] 3)
  have HK := Hid.mk (Clone_any (own_below hv hb0) hl)
  have HE : Hid ((l.filter fun a => !decide (a.p = p)) = l.filter fun a => decide (a.p ≠ p)) := List.filter_congr fun a _ => by simp
  have HD := Hid.mk (fun (v1 : Value) (w1 : World) (ho : w1.ownsRow (w.heap.size + 1) 93 8 v1 l.length (flatQ l)) (hb : Below (w.heap.size + 1) (w.alloc (.cells #[.int .i64 p] 3)) w1) =>
    DeleteFunc_any (fun a => decide (a.p = p)) (w := w1) (B := w.heap.size + 1) (by have := hb.size; simpa using this) 89 #[.pointer (some ⟨w.heap.size, 0, none⟩)] (enters_of Tryz.func89 (by kernel_rfl) rfl) ho hl
      (fun W x hW => without1_any x p w.heap.size W (by have h1 := hW.size; have h2 := hb.size; simp at h2; omega) (by
        rw [hW.cell (p := ⟨w.heap.size, 0, none⟩) (Nat.lt_succ_self _), hb.cell (p := ⟨w.heap.size, 0, none⟩) (Nat.lt_succ_self _)]; simp)))
  have HB0 := Hid.mk hb0
  clear hv hb0
  go_enter Tryz.func65, Tryz.ntmps65
  go_wp2_with (first
    | (go_at_call 86; refine HK.out.mono ?_; rintro e w1 ⟨v1, rfl, ho1, hb1⟩; have HO1 := Hid.mk ho1; have HB1 := Hid.mk hb1; clear ho1 hb1)
    | (go_at_call 88; refine (HD.out v1 w1 (by have := HO1.out; simpa using this) (by have := HB1.out; simpa using this)).mono ?_; rintro e w2 ⟨v2, rfl, ho2, hb2⟩; have HO2 := Hid.mk ho2; have HB2 := Hid.mk hb2; clear ho2 hb2))
  go_ret
  refine ⟨_, rfl, ?_, (HB0.out.trans (HB1.out.mono (by simp))).trans (HB2.out.mono (Nat.le_succ _))⟩
  have := HO2.out
  rw [HE.out] at this
  exact own_mono this (Nat.le_succ _)
end Go.Proofs.YtaicdjhblbobbabGreat
