/- Contracts of the document's answer, on: who has a lock on a position that bites. -/
import Derived.Test.YtaicdjhblbobbaaGreatPDeskR
import Derived.BigQuiet
namespace Go.Proofs.YtaicdjhblbobbaaGreat
open Go.RowKit Go.Lib

def bs6 (c : Nat → Bool) : Array Value := #[.bool (c 0), .bool (c 1), .bool (c 2), .bool (c 3), .bool (c 4), .bool (c 5)]
/-- Block b holds six truth values. -/
def Six (W : World) (b : Nat) (c : Nat → Bool) : Prop := W.heap[b]? = some (.cells (bs6 c) 155 (0, 0))
theorem Six.cell {W : World} {b : Nat} {c : Nat → Bool} (h : Six W b c) {q : Nat} (hq : q < 6) : W.cell? ⟨b, q, none⟩ = some (.bool (c q)) := by
  unfold Six bs6 at h
  simp only [World.cell?, h]
  match q, hq with
  | 0, _ | 1, _ | 2, _ | 3, _ | 4, _ | 5, _ => rfl
theorem Six.frozen {W : World} {b : Nat} {c : Nat → Bool} (h : Six W b c) (j : Nat) : W.frozen? ⟨b, j, none⟩ = false := by
  unfold Six at h
  simp [World.frozen?, h]
theorem Six.set {W : World} {b : Nat} {c : Nat → Bool} (h : Six W b c) {q : Nat} (hq : q < 6) (v : Bool) : Six (W.setCell ⟨b, q, none⟩ (.bool v)) b (fun j => if j = q then v else c j) := by
  unfold Six at *
  rw [setDesk_at h]
  match q, hq with
  | 0, _ | 1, _ | 2, _ | 3, _ | 4, _ | 5, _ => rfl
theorem Six.of_block {W W' : World} {b : Nat} {c : Nat → Bool} (h : Six W b c) (he : W'.heap[b]? = W.heap[b]?) : Six W' b c := he.trans h
def sixV (c : Nat → Bool) : List Value := [.bool (c 0), .bool (c 1), .bool (c 2), .bool (c 3), .bool (c 4), .bool (c 5)]
theorem Tryz.und6 : Tryz.prog.underlying 155 = some (.array 6 4) := by kernel_rfl
theorem Tryz.info6 : (Tryz.prog.info? 155).map (·.size) = some 6 := by kernel_rfl
theorem Six.range {W : World} {b : Nat} {c : Nat → Bool} (h : Six W b c) : W.rangeAt b 0 (sixV c) := fun j v hv => by
  have hj : j < 6 := (List.getElem?_eq_some_iff.1 hv).1
  rw [Nat.zero_add, h.cell hj, ← hv]
  match j, hj with
  | 0, _ | 1, _ | 2, _ | 3, _ | 4, _ | 5, _ => rfl
theorem Six.there {W : World} {b : Nat} {c : Nat → Bool} (h : Six W b c) : W.there b 0 6 := fun j hj => by
  refine ⟨?_, by rw [Nat.zero_add]; exact h.frozen j⟩
  rw [Nat.zero_add, h.cell hj]; simp
theorem Six.store {W : World} {b : Nat} {c0 : Nat → Bool} (h : Six W b c0) (c : Nat → Bool) : Six (W.setCells b 0 (sixV c)) b c := by
  have h1 := h.set (q := 0) (by omega) (c 0)
  have h2 := h1.set (q := 1) (by omega) (c 1)
  have h3 := h2.set (q := 2) (by omega) (c 2)
  have h4 := h3.set (q := 3) (by omega) (c 3)
  have h5 := h4.set (q := 4) (by omega) (c 4)
  have h6 := h5.set (q := 5) (by omega) (c 5)
  exact h6
/-- Six truth values read whole. -/
theorem wpList_load_six {ops : Array Oper} {rest : List Oper} {op : Oper} {a : Act} {w : World} {Q : Exit → Act → World → Prop} (hgd : op.guard = none) (x : Operand) (ho : op.op = .load 155 x)
    (b : Nat) (hx : a.eval x = .pointer (some ⟨b, 0, none⟩)) {c : Nat → Bool} (hc : Six w b c)
    (h : wpList Tryz.prog ops Q rest (a.put op.dst (.agg (bs6 c))) w) : wpList Tryz.prog ops Q (op :: rest) a w :=
  wpList_load_mid hgd _ x ho b 0 hx (sixV c) _ hc.range Tryz.und6 rfl Tryz.info6 h
/-- Six truth values stored whole. -/
theorem wpList_store_six {ops : Array Oper} {rest : List Oper} {op : Oper} {a : Act} {w : World} {Q : Exit → Act → World → Prop} (hgd : op.guard = none) (x y : Operand) (ho : op.op = .store 155 x y)
    (b : Nat) (c : Nat → Bool) (hx : a.eval x = .pointer (some ⟨b, 0, none⟩)) (hy : a.eval y = .agg (bs6 c)) {c0 : Nat → Bool} (hb : Six w b c0)
    (h : Six (w.setCells b 0 (sixV c)) b c → wpList Tryz.prog ops Q rest (a.put op.dst undef) (w.setCells b 0 (sixV c))) : wpList Tryz.prog ops Q (op :: rest) a w := by
  refine wpList_store_mid hgd _ x y ho b 0 _ hx hy (by show w.there b 0 6; exact hb.there) (by show _ = some 6; exact Tryz.info6) (by simp [bs6, Value.oneCell']) ?_
  exact h (hb.store c)
theorem results_box {fn : Func} {t : Tmp} {ty : TypeId} (h : fn.results = #[.cell t ty]) {tmps : Array Value} {P : Program} {w : World} {a : Addr} {v : Value} (hp : tmps.getD t undef = .pointer (some a)) (hl : (loadVar ty a).run P w = .ok v w) : (results fn tmps).run P w = .ok v w := by
  have hp' : tmps[t]?.getD undef = .pointer (some a) := by rw [← hp]; simp
  simp [results, h, asAddr, hp', hl]
/-- Who has one on a position below i. -/
def accH (C : Nat → Nat → Int) (a : Ask) (i q : Nat) : Bool := (List.range i).any fun j => decide (a.f ≤ (j : Int)) && biteB a.k (C j q) && decide ((q : Int) ≠ a.p)
theorem accH_succ (C : Nat → Nat → Int) (a : Ask) (i q : Nat) (h : a.f ≤ (i : Int)) : accH C a (i + 1) q = (accH C a i q || (biteB a.k (C i q) && decide ((q : Int) ≠ a.p))) := by
  unfold accH
  rw [List.range_succ, List.any_append]
  simp [h]
theorem accH_start (C : Nat → Nat → Int) (a : Ask) (q : Nat) (i : Nat) (h : (i : Int) ≤ a.f) : accH C a i q = false := by
  unfold accH
  rw [List.any_eq_false]
  intro j hj
  have := List.mem_range.1 hj
  simp
  omega
theorem accH_end (d : DK) (a : Ask) (q : Nat) (h : 0 ≤ a.t ∧ a.t ≤ 63) : accH (d.C a.file) a (a.t.toNat + 1) q = d.hold a q := by
  unfold accH DK.hold
  rw [Bool.eq_iff_iff]
  simp only [List.any_eq_true, List.mem_range, Bool.and_eq_true, decide_eq_true_eq, Int.toNat_natCast]
  constructor
  · rintro ⟨j, hj, ⟨h1, h2⟩, h3⟩
    exact ⟨j, by omega, ⟨⟨h1, by omega⟩, h2⟩, h3⟩
  · rintro ⟨j, hj, ⟨⟨h1, h4⟩, h2⟩, h3⟩
    exact ⟨j, by omega, ⟨h1, h2⟩, h3⟩
def mixH (C : Nat → Nat → Int) (a : Ask) (i q : Nat) : Nat → Bool := fun r => if r < q then accH C a (i + 1) r else accH C a i r
def Ask.boxD (a : Ask) : Obj := .cells #[.int .i64 a.p, .int .i64 a.k, .int .i64 a.file, .bool a.whole, .int .i64 a.o, .int .i64 a.f, .int .i64 a.t] 218
/-- What stands in the loops: the box of what is asked for, the answer's cells, the array. -/
structure HV (w wr : World) (a : Ask) (c : Nat → Bool) : Prop where
  b : Below w.heap.size w wr
  x : wr.heap[w.heap.size]? = some a.boxD
  r : Six wr (w.heap.size + 1) fun _ => false
  s : Six wr (w.heap.size + 1 + 1) c
theorem HV.start (w : World) (a : Ask) : HV w (((w.alloc a.boxD).alloc (.cells (bs6 fun _ => false) 155)).alloc (.cells (bs6 fun _ => false) 155)) a fun _ => false := by
  have h1 := heap_alloc_new w a.boxD
  have h2 := heap_alloc_new (w.alloc a.boxD) (.cells (bs6 fun _ => false) 155)
  have h3 := heap_alloc_new ((w.alloc a.boxD).alloc (.cells (bs6 fun _ => false) 155)) (.cells (bs6 fun _ => false) 155)
  have z1 : (w.alloc a.boxD).heap.size = w.heap.size + 1 := by simp
  have z2 : ((w.alloc a.boxD).alloc (.cells (bs6 fun _ => false) 155)).heap.size = w.heap.size + 1 + 1 := by simp
  have b1 := (Below.refl (w.heap.size + 1) (w.alloc a.boxD)).alloc (by omega) (.cells (bs6 fun _ => false) 155)
  have b2 := b1.alloc (by omega) (.cells (bs6 fun _ => false) 155)
  have b3 := (Below.refl (w.heap.size + 1 + 1) ((w.alloc a.boxD).alloc (.cells (bs6 fun _ => false) 155))).alloc (by omega) (.cells (bs6 fun _ => false) 155)
  rw [z1] at h2
  rw [z2] at h3
  refine ⟨((Below.refl _ _).alloc (Nat.le_refl _) _).trans (b2.mono (by omega)), ?_, ?_, ?_⟩
  · rw [b2.block _ (by omega)]; exact h1
  · unfold Six; rw [b3.block _ (by omega)]; exact h2
  · exact h3
theorem HV.put {w wr : World} {C : Nat → Nat → Int} {a : Ask} {i q : Nat} (h : HV w wr a (mixH C a i q)) (hq : q < 6) (n : Nat) {v : Bool} (hv : accH C a (i + 1) q = v) : HV w ((wr.drewN n).setCell ⟨w.heap.size + 1 + 1, q, none⟩ (.bool v)) a (mixH C a i (q + 1)) := by
  have hd : ∀ b : Nat, (wr.drewN n).heap[b]? = wr.heap[b]? := fun _ => rfl
  have hb : Below w.heap.size w (wr.drewN n) := ⟨h.b.os, h.b.tape, h.b.output, h.b.size, fun k hk => (hd k).trans (h.b.block k hk)⟩
  refine ⟨hb.setCell (by simp; omega) _, ?_, ?_, ?_⟩
  · rw [Below.heap_setCell _ _ _ _ (by simp; omega), hd]; exact h.x
  · unfold Six; rw [Below.heap_setCell _ _ _ _ (by simp), hd]; exact h.r
  · have hs := (h.s.of_block (hd _)).set hq v
    have e : (fun j => if j = q then v else mixH C a i q j) = mixH C a i (q + 1) := by
      funext j
      unfold mixH
      by_cases e : j = q
      · subst e; rw [if_pos rfl, if_pos (by omega), hv]
      · rw [if_neg e]
        by_cases e2 : j < q
        · rw [if_pos e2, if_pos (by omega)]
        · rw [if_neg e2, if_neg (by omega)]
    rw [e] at hs
    exact hs

set_option maxHeartbeats 8000000 in
set_option maxRecDepth 100000 in
theorem dHolders_any {w : World} {db : Nat} {P : Nat → Prop} {d : DK} {ov qv : Value} (h : DV w db P d ov qv) (a : Ask) (hf : a.file < 3) (hr : 0 ≤ a.f ∧ a.f ≤ a.t ∧ a.t ≤ 63) :
    Calls Tryz.prog 140 #[dkPtr db, dAskV a] w fun e w' => e = .returned (.agg (bs6 fun q => d.hold a q)) ∧ Below w.heap.size w w' := by
  have HC := Hid.mk (fun (W : World) (hW : Below w.heap.size w W) i q hi hq => (h.below hW).k.cC (f := a.file) (i := i) (p := q) hf hi hq)
  have HE := Hid.mk (fun q => accH_end d a q ⟨by omega, hr.2.2⟩)
  have HB := Hid.mk (fun x y (W : World) => dBites_any x y W)
  have hdw := h.k.lt
  obtain ⟨h0, h1, h2⟩ := hr
  obtain ⟨f, hfe⟩ : ∃ f : Nat, a.f = f := ⟨a.f.toNat, by omega⟩
  clear h
  unfold dkPtr dAskV
  generalize d.C a.file = C at *
  go_enter Tryz.func140, Tryz.ntmps140
  go_wp2
  go_loopw [6] (fun s6 wr => ∃ i : Nat, s6 = .int .i64 i ∧ f ≤ i ∧ (i : Int) ≤ a.t + 1 ∧ Hid (HV w wr a (accH C a i))) (fun s6 _ => 64 - (intOf s6).toNat)
  case atStart =>
    refine ⟨f, rfl, Nat.le_refl _, by omega, ?_⟩
    have e : accH C a f = fun _ => false := funext fun q => accH_start C a q f (by omega)
    rw [e]
    have hv := HV.start w a
    unfold Ask.boxD bs6 at hv
    rw [hfe] at hv
    exact hv
  case round =>
    obtain ⟨i, rfl, hfi, hit, HV0⟩ := hrel
    have c1 : wr.cell? ⟨w.heap.size, 1, none⟩ = some (.int .i64 a.k) := by simp only [World.cell?, HV0.out.x, Ask.boxD]; rfl
    have c2 : wr.cell? ⟨w.heap.size, 2, none⟩ = some (.int .i64 a.file) := by simp only [World.cell?, HV0.out.x, Ask.boxD]; rfl
    have c6 : wr.cell? ⟨w.heap.size, 6, none⟩ = some (.int .i64 a.t) := by simp only [World.cell?, HV0.out.x, Ask.boxD]; rfl
    by_cases hlt : (i : Int) ≤ a.t
    · have hi64 : i < 64 := by omega
      have hi64' : (i : Int) < 64 := by omega
      go_wp2
      go_loopw [7] (fun s7 wr => ∃ q : Nat, s7 = .int .i64 q ∧ q ≤ 6 ∧ Hid (HV w wr a (mixH C a i q))) (fun s7 _ => 6 - (intOf s7).toNat)
      case atStart =>
        refine ⟨0, rfl, Nat.zero_le _, ?_⟩
        have e : mixH C a i 0 = accH C a i := funext fun r => by unfold mixH; rw [if_neg (by omega)]
        rw [e]; exact HV0.out
      case round =>
        obtain ⟨q, rfl, hq, HV1⟩ := hrel
        clear c1 c2 c6
        have c0 : wr.cell? ⟨w.heap.size, 0, none⟩ = some (.int .i64 a.p) := by simp only [World.cell?, HV1.out.x, Ask.boxD]; rfl
        have c1 : wr.cell? ⟨w.heap.size, 1, none⟩ = some (.int .i64 a.k) := by simp only [World.cell?, HV1.out.x, Ask.boxD]; rfl
        have c2 : wr.cell? ⟨w.heap.size, 2, none⟩ = some (.int .i64 a.file) := by simp only [World.cell?, HV1.out.x, Ask.boxD]; rfl
        by_cases hq6 : q < 6
        · have hq6' : (q : Int) < 6 := by omega
          have hff : (a.file : Int) < 3 := by omega
          have hc := HC.out wr HV1.out.b i q hi64 hq6
          have hs := HV1.out.s.cell hq6
          have hfr := HV1.out.s.frozen q
          go_upto_region 8 with fail
          go_quiet ((go_at_call 168; exact Calls.quiet_of_same (HB.out _ _ _)))
          have HAC := Hid.mk (accH_succ C a i q (by omega))
          have hmx : mixH C a i q q = accH C a i q := by unfold mixH; rw [if_neg (by omega)]
          rw [hmx] at hs
          clear hmx
          generalize biteB a.k (C i q) = bb at *
          generalize accH C a i q = vv at *
          cases vv
          · cases bb
            · go_wp2
              go_roundw
              case rel => exact ⟨q + 1, by go_num, by omega, HV1.out.put hq6 _ (by rw [HAC.out]; simp)⟩
              case measure => simp [intOf]; omega
            · by_cases hp : (q : Int) = a.p
              · have hpp : a.p = (q : Int) := hp.symm
                rw [hpp] at c0
                have HPP := Hid.mk hpp
                clear hp hpp
                go_wp2
                go_roundw
                case rel => exact ⟨q + 1, by go_num, by omega, HV1.out.put hq6 _ (by rw [HAC.out]; simp [HPP.out])⟩
                case measure => simp [intOf]; omega
              · go_wp2
                go_roundw
                case rel => exact ⟨q + 1, by go_num, by omega, HV1.out.put hq6 _ (by rw [HAC.out]; simp [hp])⟩
                case measure => simp [intOf]; omega
          · go_wp2
            go_roundw
            case rel => exact ⟨q + 1, by go_num, by omega, HV1.out.put hq6 _ (by rw [HAC.out]; simp)⟩
            case measure => simp [intOf]; omega

        · obtain rfl : q = 6 := by omega
          go_wp2
          go_roundw
          case rel =>
            refine ⟨i + 1, by go_num, by omega, by omega, ?_⟩
            have hv := HV1.out
            refine ⟨hv.b, hv.x, hv.r, ?_⟩
            have := hv.s
            unfold Six bs6 mixH at *
            exact this
          case measure => simp [intOf]; omega
    · have HEND := Hid.mk (show i = a.t.toNat + 1 by omega)
      clear hit hfi
      go_wp2_with (first
        | refine wpList_load_six rfl _ rfl _ rfl HV0.out.s ?_
        | (refine wpList_store_six rfl _ _ rfl _ _ rfl rfl HV0.out.r ?_; intro hsix; have HSIX := Hid.mk hsix; clear hsix))
      refine bodyPost_ret (v := .agg (bs6 (accH C a i))) (results_box Tryz.results140 rfl (run_loadVar_mid (P := Tryz.prog) _ (w.heap.size + 1) 0 155 (sixV (accH C a i)) _ HSIX.out.range Tryz.und6 rfl Tryz.info6)) rfl ⟨?_, ?_⟩
      · rw [HEND.out]
        exact ret_val (by unfold bs6; simp only [HE.out])
      · have hb := HV0.out.b
        unfold sixV
        simp only [World.setCells]
        exact (((((hb.setCell (by simp) _).setCell (by simp) _).setCell (by simp) _).setCell (by simp) _).setCell (by simp) _).setCell (by simp) _
end Go.Proofs.YtaicdjhblbobbaaGreat
