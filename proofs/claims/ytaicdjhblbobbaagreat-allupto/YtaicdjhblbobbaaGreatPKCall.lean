/- Contract of the Kernel's call: the guard is taken, the process must not wait, the answer is made, the guard let go. -/
import Derived.Test.YtaicdjhblbobbaaGreatPWake
import Derived.Test.YtaicdjhblbobbaaGreatPLocks
import Derived.Conc.MuLone
namespace Go.Proofs.YtaicdjhblbobbaaGreat
open Go.RowKit Go.Lib Go.MuLone

theorem waits_mem (s : DS) (p : Int) : decide (p ∈ s.Q.map (·.p)) = s.waits p := by
  unfold DS.waits
  rw [Bool.eq_iff_iff, decide_eq_true_eq, List.mem_map, List.any_eq_true]
  simp only [decide_eq_true_eq]
section
variable {w : World} {kb tb mb : Nat} {g : Int} {P : Nat → Prop} {ι : Nat → Nat} {s : DS} {rv wv : Nat → Value} {qv : Value} {B : Nat}
/-- The Kernel behind a call: the reply, the list in it, the state. -/
def Done (w w' : World) (kb tb mb : Nat) (P : Nat → Prop) (e : Ending) (r : Rp) (t : DS) : Prop :=
  ∃ v, e = .returned (rpV r v) ∧ w'.ownsRow w.heap.size 57 2 v r.d.length (flatD r.d) ∧ (∃ ι' rv' wv' qv', KV w' kb tb mb 0 P ι' t rv' wv' qv') ∧ Kp [kb, tb, mb] w w'

theorem result_block {w w2 : World} {bs : List Nat} {a : Addr} {v : Value} {o : Obj} (hp : Kp bs ((w.setCell a v).alloc o) w2) (hbs : ∀ x, x ∈ bs → x < w.heap.size) : w2.heap[w.heap.size]? = some o ∧ w.heap.size < w2.heap.size := by
  have hz := hp.size
  simp at hz
  refine ⟨?_, by omega⟩
  rw [hp.block w.heap.size (by simp) (fun hx => by have := hbs _ hx; omega)]
  have := heap_alloc_new (w.setCell a v) o
  simpa using this

set_option maxHeartbeats 4000000 in
set_option maxRecDepth 100000 in
theorem call_wait (h : KV w kb tb mb 0 P ι s rv wv qv) (hP : ∀ b, B ≤ b → P b) (hB : B ≤ w.heap.size) (hbas : s.Bas) (p : Int) (fv : Value) (hw : s.waits p = true) :
    Calls Tryz.prog 40 #[.pointer (some ⟨kb, 0, none⟩), .int .i64 p, fv] w fun e w' => Done w w' kb tb mb P e (rerr 2) s := by
  have hlt := h.lt
  have h1 : KV (w.alloc (.cells #[.int .i64 0, .int .i64 0, .slice none 0 0] 34)) kb tb mb 0 P ι s rv wv qv := h.below ((Below.refl _ _).alloc (Nat.le_refl _) _)
  have c0 := h1.c0
  have cz := h1.frz 0
  have h2 : KV ((w.setCell ⟨kb, 0, none⟩ (.int .i32 1)).alloc (.cells #[.int .i64 0, .int .i64 0, .slice none 0 0] 34)) kb tb mb 1 P ι s rv wv qv := (h.setGuard 1).below ((Below.refl _ _).alloc (Nat.le_refl _) _)
  have c9 := h2.c9
  have hql := h.sm.ql
  have htl := h.t.lt
  have hml := h.m.lt
  have HQ := Hid.mk (Has_any p h2.q (by rw [renQ_len]; omega))
  rw [renQ_map_p, waits_mem, hw] at HQ
  obtain ⟨qa, qc, rfl⟩ := own_form h.q
  have HA := Hid.mk (fun (W : World) (hb : Below ((w.setCell ⟨kb, 0, none⟩ (.int .i32 1)).alloc (.cells #[.int .i64 0, .int .i64 0, .slice none 0 0] 34)).heap.size ((w.setCell ⟨kb, 0, none⟩ (.int .i32 1)).alloc (.cells #[.int .i64 0, .int .i64 0, .slice none 0 0] 34)) W) => answer_any (h2.below hb) hP (by have := hb.size; simp at this; omega) hbas 0 2)
  rw [DS.done_err s (by decide)] at HA
  generalize rerr 2 = r at *
  unfold rpV at HA
  clear h h1 h2 hbas hw
  go_enter_defers Tryz.func40, Tryz.ntmps40
  go_wp2_with (first
    | (go_at_call 43; refine (lock_free Tryz.muLib ⟨kb, 0, none⟩ _ c0 cz).mono ?_; rintro e w' ⟨rfl, rfl⟩)
    | (go_at_call 71; refine HQ.out.mono ?_; rintro e w2 ⟨rfl, hb2⟩; have HB2 := Hid.mk hb2; clear hb2)
    | (go_at_call 57; refine (HA.out _ HB2.out).mono ?_; rintro e w3 ⟨v3, rfl, ho3, ⟨rv', wv', qv', hkv⟩, hkp⟩; obtain ⟨hblk, hq2⟩ := result_block (bs := [kb]) ((Kp.below HB2.out).trans hkp) (fun x hx => by simp at hx; omega); obtain ⟨a3, c3, rfl⟩ := own_form ho3; obtain ⟨q0, q1, q2, qz⟩ := reply_block hblk; have qz0 := qz 0; have qz1 := qz 1; have qz2 := qz 2; have HBK := Hid.mk hblk; have HO3 := Hid.mk ho3; have HKV := Hid.mk hkv; have HKP := Hid.mk ((Kp.below HB2.out).trans hkp); clear ho3 hkv hkp hblk qz))
  have hK4 := HKV.out.reply3 HBK.out (.int .i64 r.e) (.int .i64 r.n) (.slice a3 r.d.length c3)
  have hO4 := own_reply3 HO3.out HBK.out (by decide) (.int .i64 r.e) (.int .i64 r.n) (.slice a3 r.d.length c3)
  have hfin := reply_set HBK.out (.int .i64 r.e) (.int .i64 r.n) (.slice a3 r.d.length c3)
  have g0 := hK4.c0
  have gz := hK4.frz 0
  refine leaves_cons (f := 44) (args := #[.pointer (some ⟨kb, 0, none⟩)]) (by simp) (by simp [go_sem]) ?_
  refine (unlock_deferred Tryz.muLib ⟨kb, 0, none⟩ .returning _ g0 gz).mono ?_
  rintro e u' w'' ⟨rfl, rfl, rfl⟩
  have hfin2 := (Below.heap_setCell (((w3.setCell ⟨w.heap.size, 0, none⟩ (.int .i64 r.e)).setCell ⟨w.heap.size, 1, none⟩ (.int .i64 r.n)).setCell ⟨w.heap.size, 2, none⟩ (.slice a3 r.d.length c3)) ⟨kb, 0, none⟩ (.int .i32 0) w.heap.size (by simp; omega)).trans hfin
  obtain ⟨y0, y1, y2, _⟩ := reply_block hfin2
  have hK5 := hK4.setGuard 0
  refine ⟨rpV r (.slice a3 r.d.length c3), ?_, _, rfl, ?_, ⟨ι, rv', wv', qv', hK5⟩, ?_⟩
  · simp [results, Tryz.results40, go_sem, y0, y1, y2, rpV]
  · have hz3 : w.heap.size ≤ w2.heap.size := by have := HB2.out.size; simp at this; omega
    exact own_mono (own_kp hK4 (Kp.setCell (by simp)) hO4 (by decide) (by decide)) hz3
  · have e1 : Kp [kb] w ((w.setCell ⟨kb, 0, none⟩ (.int .i32 1)).alloc (.cells #[.int .i64 0, .int .i64 0, .slice none 0 0] 34)) := (Kp.setCell (by simp)).trans (Kp.below ((Below.refl _ _).alloc (Nat.le_refl _) _))
    exact ((((e1.trans HKP.out).newCell (Nat.le_refl _) _).newCell (Nat.le_refl _) _).newCell (Nat.le_refl _) _).trans (Kp.setCell (by simp)) |>.mono (by simp)

set_option maxHeartbeats 4000000 in
set_option maxRecDepth 100000 in
theorem call_go (h : KV w kb tb mb 0 P ι s rv wv qv) (hP : ∀ b, B ≤ b → P b) (hB : B ≤ w.heap.size) (p : Int) (gf : Nat) (lb : Array Value) (eg : ∀ args w, (callFunc gf args).run Tryz.prog w = .ok (.enter gf args) w) (n f : Int) (t : DS) (ht : t.Bas) (hw : s.waits p = false)
    (hdo : ∀ W, Kp [kb] w W → KV W kb tb mb 1 P ι s rv wv qv → Calls Tryz.prog gf lb W fun e w' => e = .returned (.tuple #[.int .i64 n, .int .i64 f]) ∧ (∃ ι' rv' wv' qv', KV w' kb tb mb 1 P ι' t rv' wv' qv') ∧ Kp [kb, tb, mb] W w') :
    Calls Tryz.prog 40 #[.pointer (some ⟨kb, 0, none⟩), .int .i64 p, .func (.func gf) #[] lb] w fun e w' => Done w w' kb tb mb P e (t.done n f).2 (t.done n f).1 := by
  have hlt := h.lt
  have h1 : KV (w.alloc (.cells #[.int .i64 0, .int .i64 0, .slice none 0 0] 34)) kb tb mb 0 P ι s rv wv qv := h.below ((Below.refl _ _).alloc (Nat.le_refl _) _)
  have c0 := h1.c0
  have cz := h1.frz 0
  have h2 : KV ((w.setCell ⟨kb, 0, none⟩ (.int .i32 1)).alloc (.cells #[.int .i64 0, .int .i64 0, .slice none 0 0] 34)) kb tb mb 1 P ι s rv wv qv := (h.setGuard 1).below ((Below.refl _ _).alloc (Nat.le_refl _) _)
  have c9 := h2.c9
  have hql := h.sm.ql
  have htl := h.t.lt
  have hml := h.m.lt
  have HQ := Hid.mk (Has_any p h2.q (by rw [renQ_len]; omega))
  rw [renQ_map_p, waits_mem, hw] at HQ
  obtain ⟨qa, qc, rfl⟩ := own_form h.q
  have HE1 : Hid (Kp [kb] w ((w.setCell ⟨kb, 0, none⟩ (.int .i32 1)).alloc (.cells #[.int .i64 0, .int .i64 0, .slice none 0 0] 34))) := (Kp.setCell (by simp)).trans (Kp.below ((Below.refl _ _).alloc (Nat.le_refl _) _))
  have HDO := Hid.mk (fun (W : World) (hb : Below ((w.setCell ⟨kb, 0, none⟩ (.int .i32 1)).alloc (.cells #[.int .i64 0, .int .i64 0, .slice none 0 0] 34)).heap.size ((w.setCell ⟨kb, 0, none⟩ (.int .i32 1)).alloc (.cells #[.int .i64 0, .int .i64 0, .slice none 0 0] 34)) W) => hdo W (HE1.out.trans (Kp.below hb)) (h2.below hb))
  have HT := Hid.mk ht
  generalize hr : t.done n f = r at *
  have HR := Hid.mk hr
  clear h h1 h2 hw hdo hr ht
  go_enter_defers Tryz.func40, Tryz.ntmps40
  go_wp2_with (first
    | (go_at_call 43; refine (lock_free Tryz.muLib ⟨kb, 0, none⟩ _ c0 cz).mono ?_; rintro e w' ⟨rfl, rfl⟩)
    | (go_at_call 71; refine HQ.out.mono ?_; rintro e w2 ⟨rfl, hb2⟩; have hz2 := hb2.size; simp at hz2; have HB2 := Hid.mk hb2; clear hb2)
    | (go_at_fn gf; refine (HDO.out _ HB2.out).mono ?_; rintro e w4 ⟨rfl, ⟨ι4, rv4, wv4, qv4, hkv4⟩, hkp4⟩; have hz4 := hkp4.size; have hA := answer_any hkv4 hP (by omega) HT.out n f; rw [HR.out] at hA; unfold rpV at hA; have HA := Hid.mk hA; have HKP4 := Hid.mk ((Kp.below HB2.out).trans hkp4); clear hkv4 hkp4 hA)
    | (go_at_call 57; refine HA.out.mono ?_; rintro e w3 ⟨v3, rfl, ho3, ⟨rv', wv', qv', hkv⟩, hkp⟩; obtain ⟨hblk, hq2⟩ := result_block (bs := [kb, tb, mb]) (HKP4.out.trans (hkp.mono (by simp))) (fun x hx => by simp at hx; omega); obtain ⟨a3, c3, rfl⟩ := own_form ho3; obtain ⟨q0, q1, q2, qz⟩ := reply_block hblk; have qz0 := qz 0; have qz1 := qz 1; have qz2 := qz 2; have HBK := Hid.mk hblk; have HO3 := Hid.mk ho3; have HKV := Hid.mk hkv; have HKP := Hid.mk (HKP4.out.trans (hkp.mono (cs := [kb, tb, mb]) (by simp))); clear ho3 hkv hkp hblk qz))
  have hK4 := HKV.out.reply3 HBK.out (.int .i64 r.2.e) (.int .i64 r.2.n) (.slice a3 r.2.d.length c3)
  have hO4 := own_reply3 HO3.out HBK.out (by decide) (.int .i64 r.2.e) (.int .i64 r.2.n) (.slice a3 r.2.d.length c3)
  have hfin := reply_set HBK.out (.int .i64 r.2.e) (.int .i64 r.2.n) (.slice a3 r.2.d.length c3)
  have g0 := hK4.c0
  have gz := hK4.frz 0
  refine leaves_cons (f := 44) (args := #[.pointer (some ⟨kb, 0, none⟩)]) (by simp) (by simp [go_sem]) ?_
  refine (unlock_deferred Tryz.muLib ⟨kb, 0, none⟩ .returning _ g0 gz).mono ?_
  rintro e u' w'' ⟨rfl, rfl, rfl⟩
  have hfin2 := (Below.heap_setCell (((w3.setCell ⟨w.heap.size, 0, none⟩ (.int .i64 r.2.e)).setCell ⟨w.heap.size, 1, none⟩ (.int .i64 r.2.n)).setCell ⟨w.heap.size, 2, none⟩ (.slice a3 r.2.d.length c3)) ⟨kb, 0, none⟩ (.int .i32 0) w.heap.size (by simp; omega)).trans hfin
  obtain ⟨y0, y1, y2, _⟩ := reply_block hfin2
  have hK5 := hK4.setGuard 0
  refine ⟨rpV r.2 (.slice a3 r.2.d.length c3), ?_, _, rfl, ?_, ⟨ι4, rv', wv', qv', hK5⟩, ?_⟩
  · simp [results, Tryz.results40, go_sem, y0, y1, y2, rpV]
  · exact own_mono (own_kp hK4 (Kp.setCell (by simp)) hO4 (by decide) (by decide)) (by omega)
  · exact (((((HE1.out.mono (by simp)).trans HKP.out).newCell (Nat.le_refl _) _).newCell (Nat.le_refl _) _).newCell (Nat.le_refl _) _).trans (Kp.setCell (by simp))
end
end Go.Proofs.YtaicdjhblbobbaaGreat

/- Contracts of the Kernel's at, tellRuns and tellWholes (the guard is held). -/
namespace Go.Proofs.YtaicdjhblbobbaaGreat
open Go.RowKit Go.Lib

theorem Tryz.infoApiRun : (Tryz.prog.info? 41).map (fun i => (i.zero, i.size, i.bytes)) = some (some (.agg #[.int .i64 0, .int .i64 0, .int .i64 0, .int .i64 0]), 4, 32) := by kernel_rfl
theorem Tryz.infoHold : (Tryz.prog.info? 55).map (fun i => (i.zero, i.size, i.bytes)) = some (some (.agg #[.int .i64 0, .slice none 0 0]), 2, 32) := by kernel_rfl
theorem flatR_snoc (l : List Rn) (r : Rn) : flatR (l ++ [r]) = flatR l ++ [.int .i64 r.p, .int .i64 r.k, .int .i64 r.f, .int .i64 r.t] := by simp [flatR, rcells]
theorem flatH_snoc : ∀ (l : List Hd) (vs : List Value) (h : Hd) (v : Value), vs.length = l.length → flatH (l ++ [h]) (vs ++ [v]) = flatH l vs ++ [.int .i64 h.k, v]
  | [], vs, h, v, e => by
    have : vs = [] := List.eq_nil_of_length_eq_zero e
    subst this; rfl
  | a :: l, [], h, v, e => by simp at e
  | a :: l, u :: vs, h, v, e => by
    have := flatH_snoc l vs h v (by simpa using e)
    simp [flatH, this]
theorem run_field_locked (a b : Value) (W : World) : (Instr.field 95 (.agg #[a, b]) 0).run Tryz.prog W = .ok a W ∧ (Instr.field 95 (.agg #[a, b]) 1).run Tryz.prog W = .ok b W := by
  constructor <;> simp [Instr.field, asAgg, run_underlying Tryz.underlying95, part, Tryz.sizeOf91, Tryz.sizeOf93, Tryz.isAgg91, Tryz.isAgg93]
section
variable {w : World} {kb tb mb : Nat} {g : Int} {P : Nat → Prop} {ι : Nat → Nat} {s : DS} {rv wv : Nat → Value} {qv : Value} {B : Nat}
set_option maxHeartbeats 1000000 in
set_option maxRecDepth 100000 in
theorem at_yes (h : KV w kb tb mb g P ι s rv wv qv) (i : Nat) (hi : i < 3) :
    Calls Tryz.prog 76 #[.pointer (some ⟨kb, 0, none⟩), .int .i64 i] w fun e w' => e = .returned (.agg #[rv i, wv i]) ∧ Below w.heap.size w w' := by
  obtain ⟨cr, cw⟩ := h.pair ((Below.refl _ _).alloc (Nat.le_refl _) (.cells #[.slice none 0 0, .slice none 0 0] 95)) i hi
  have hkl := h.lt
  obtain ⟨ra, rc, hra⟩ := own_form (h.r i hi)
  obtain ⟨wa, wc, hwa⟩ := own_form (h.wr i hi)
  rw [hra] at cr ⊢
  rw [hwa] at cw ⊢
  generalize (s.R i).length = rl at *
  generalize (renW ι (s.W i)).length = wl at *
  have h0 : (0 : Int) ≤ (i : Int) := by omega
  have h3 : (i : Int) < 3 := by omega
  have h0' : ¬ (i : Int) < 0 := by omega
  have h3' : ¬ (3 : Int) ≤ (i : Int) := by omega
  clear h hra hwa
  go_enter Tryz.func76, Tryz.ntmps76
  go_wp2
  exact bodyPost_ret (v := .agg #[.slice ra rl rc, .slice wa wl wc]) (by simp [results, Tryz.results76, go_sem]) rfl ⟨rfl, (Below.refl _ _).alloc (Nat.le_refl _) _⟩
set_option maxHeartbeats 1000000 in
set_option maxRecDepth 100000 in
theorem at_no (w : World) (kb : Nat) (f : Int) (hf : f < 0 ∨ 3 ≤ f) :
    Calls Tryz.prog 76 #[.pointer (some ⟨kb, 0, none⟩), .int .i64 f] w fun e w' => e = .returned (.agg #[.slice none 0 0, .slice none 0 0]) ∧ Below w.heap.size w w' := by
  by_cases h0 : f < 0
  · go_enter Tryz.func76, Tryz.ntmps76
    go_wp2
    exact bodyPost_ret (v := .agg #[.slice none 0 0, .slice none 0 0]) (by simp [results, Tryz.results76, go_sem]) rfl ⟨rfl, (Below.refl _ _).alloc (Nat.le_refl _) _⟩
  · have h3 : 3 ≤ f := by omega
    clear hf
    go_enter Tryz.func76, Tryz.ntmps76
    go_wp2
    exact bodyPost_ret (v := .agg #[.slice none 0 0, .slice none 0 0]) (by simp [results, Tryz.results76, go_sem]) rfl ⟨rfl, (Below.refl _ _).alloc (Nat.le_refl _) _⟩
/-- at, of any number: what the lists are. -/
theorem at_any (h : KV w kb tb mb g P ι s rv wv qv) (f : Int) : ∃ rx wx, w.ownsRow 0 129 4 rx (s.runs f).length (flat (s.runs f)) ∧ (∃ l : List Wl, (∀ x, x ∈ l → x.o < s.N) ∧ l.length ≤ 100 ∧ w.ownsRow 0 135 2 wx (renW ι l).length (flatWl (renW ι l)) ∧ s.holds f = l.map fun x => ⟨x.k, s.users x.o⟩) ∧ (s.runs f).length ≤ 12 ∧
    Calls Tryz.prog 76 #[.pointer (some ⟨kb, 0, none⟩), .int .i64 f] w fun e w' => e = .returned (.agg #[rx, wx]) ∧ Below w.heap.size w w' := by
  unfold DS.runs DS.holds
  cases hf : fileB f
  · have hf' : f < 0 ∨ 3 ≤ f := by unfold fileB at hf; simp at hf; omega
    refine ⟨.slice none 0 0, .slice none 0 0, World.ownsRow_nil _ _ _ _, ⟨[], by simp, by simp, World.ownsRow_nil _ _ _ _, rfl⟩, by simp, at_no w kb f hf'⟩
  · have hf' : 0 ≤ f ∧ f < 3 := by unfold fileB at hf; simp at hf; exact hf
    obtain ⟨i, rfl⟩ : ∃ i : Nat, f = (i : Int) := ⟨f.toNat, by omega⟩
    have hi : i < 3 := by omega
    refine ⟨rv i, wv i, h.r i hi, ⟨s.W i, h.sm.w i, h.sm.wl i, h.wr i hi, rfl⟩, h.sm.len i, at_yes h i hi⟩

set_option maxHeartbeats 4000000 in
set_option maxRecDepth 100000 in
theorem tellRuns_any (h : KV w kb tb mb g P ι s rv wv qv) (f : Int) :
    Calls Tryz.prog 45 #[.pointer (some ⟨kb, 0, none⟩), .int .i64 f] w fun e w' => ∃ v', e = .returned v' ∧ w'.ownsRow w.heap.size 41 4 v' (s.runs f).length (flatR (s.runs f)) ∧ Below w.heap.size w w' := by
  obtain ⟨rx, wx, hr, ⟨l, _, _, hw, _⟩, hl12, hat⟩ := at_any h f
  obtain ⟨ra, rc, rfl⟩ := own_form hr
  obtain ⟨wa, wc, rfl⟩ := own_form hw
  have HR := Hid.mk hr
  have HA := Hid.mk hat
  generalize s.runs f = R at *
  generalize (renW ι l).length = wl at *
  have hfl := fun W => (run_field_locked (.slice ra R.length rc) (.slice wa wl wc) W).1
  clear h hr hat hw
  go_enter Tryz.func45, Tryz.ntmps45
  go_wp2_with (go_at_call 76; refine HA.out.mono ?_; rintro e w1 ⟨rfl, hb1⟩; have hz1 := hb1.size; have HB1 := Hid.mk hb1; clear hb1)
  go_loopw [5, 13] (fun s5 s13 wr => ∃ (n : Nat), s13 = .int .i64 n ∧ n ≤ R.length ∧ Hid (wr.ownsRow w.heap.size 41 4 s5 (R.take n).length (flatR (R.take n))) ∧ Hid (Below w.heap.size w wr)) (fun _ s13 _ => R.length - (intOf s13).toNat)
  case atStart => exact ⟨0, rfl, Nat.zero_le _, World.ownsRow_nil _ _ _ _, HB1.out⟩
  case round =>
    obtain ⟨n, rfl, hn, HO, HB⟩ := hrel
    have hsz : w.heap.size ≤ wr.heap.size := HB.out.size
    by_cases hlt : n < R.length
    · obtain ⟨x, hx⟩ : ∃ x, R[n]? = some x := ⟨_, List.getElem?_eq_getElem hlt⟩
      obtain ⟨gb, rfl, _, hg, _, hcell⟩ := own_some HR.out (by omega)
      obtain ⟨f0, f1, f2, f3⟩ := flat_cell hx
      have hlt' : (n : Int) < (R.length : Int) := by omega
      have c0 : wr.cell? ⟨gb, n * 4, none⟩ = some (.int .i64 x.p) := (HB.out.cell (p := ⟨gb, n * 4, none⟩) hg).trans ((hcell _ (by omega)).trans f0)
      have c1 : wr.cell? ⟨gb, n * 4 + 1, none⟩ = some (.int .i64 x.k) := (HB.out.cell (p := ⟨gb, n * 4 + 1, none⟩) hg).trans ((hcell _ (by omega)).trans f1)
      have c2 : wr.cell? ⟨gb, n * 4 + 2, none⟩ = some (.int .i64 x.f) := (HB.out.cell (p := ⟨gb, n * 4 + 2, none⟩) hg).trans ((hcell _ (by omega)).trans f2)
      have c3 : wr.cell? ⟨gb, n * 4 + 3, none⟩ = some (.int .i64 x.t) := (HB.out.cell (p := ⟨gb, n * 4 + 3, none⟩) hg).trans ((hcell _ (by omega)).trans f3)
      have HT : Hid (R.take (n + 1) = R.take n ++ [x]) := by show _ = _; rw [List.take_add_one, hx]; rfl
      have hgw : gb < wr.heap.size := by omega
      have hll : (R.take n).length ≤ 100 := by simp; omega
      generalize R.take n = L at *
      obtain ⟨ua, uc, rfl⟩ := own_form HO.out
      clear hcell f0 f1 f2 f3 hx
      go_wp2_with (at_builtin; refine wpList_snoc rfl _ _ _ rfl Tryz.underlying38 Tryz.infoApiRun rfl (by decide) (by decide) rfl (HO.out.alloc _) (by simp; omega) (by omega) (cs := #[.int .i64 x.p, .int .i64 x.k, .int .i64 x.f, .int .i64 x.t]) rfl (by simp) rfl (by simp [Value.oneCell']) ?_; intro v2 w2 ho2 hb2 hz2 hold2; have HO2 := Hid.mk ho2; have HB2 := Hid.mk hb2; clear ho2 hb2 hold2)
      go_roundw
      case rel =>
        refine ⟨n + 1, by go_num, by omega, ?_, (HB.out.alloc hsz _).trans HB2.out⟩
        rw [HT.out, List.length_append, flatR_snoc]
        exact HO2.out
      case measure => simp [intOf]; omega
    · obtain rfl : n = R.length := by omega
      have HO3 := HO.out
      rw [List.take_of_length_le (Nat.le_refl _)] at HO3
      have HO4 := Hid.mk HO3
      clear HO3
      go_wp2
      go_ret
      exact ⟨_, rfl, HO4.out, HB.out⟩
/-- The lists of processes in a list of locks: each new, no two in one block. -/
structure HoldsB (base : Nat) (w : World) (v : Value) (l : List Hd) (vs : List Value) : Prop where
  len : vs.length = l.length
  own : w.ownsRow base 55 2 v l.length (flatH l vs)
  each : ∀ (j : Nat) h u, l[j]? = some h → vs[j]? = some u → w.ownsRow base 3 1 u h.ps.length (ints h.ps)
  apart : vs.Pairwise fun x y => ∀ b, x.ownBlock = some b → y.ownBlock ≠ some b
theorem HoldsB.nil (base : Nat) (w : World) : HoldsB base w (.slice none 0 0) [] [] := ⟨rfl, World.ownsRow_nil _ _ _ _, fun j h u e => by simp at e, List.Pairwise.nil⟩
theorem HoldsB.below {base : Nat} {w w' : World} {v : Value} {l : List Hd} {vs : List Value} (h : HoldsB base w v l vs) (hb : Below w.heap.size w w') : HoldsB base w' v l vs :=
  ⟨h.len, own_below h.own hb, fun j d u e1 e2 => own_below (h.each j d u e1 e2) hb, h.apart⟩
theorem HoldsB.snoc {base : Nat} {w w1 w' : World} {v v' : Value} {l : List Hd} {vs : List Value} (h : HoldsB base w v l vs) (hb : Below w.heap.size w w1) {d : Hd} {u : Value} (hu : w1.ownsRow w.heap.size 3 1 u d.ps.length (ints d.ps)) (hle : base ≤ w.heap.size)
    (ho : w'.ownsRow base 55 2 v' (l.length + 1) (flatH l vs ++ [.int .i64 d.k, u])) (hold : ∀ b, b < w1.heap.size → v.ownBlock ≠ some b → w'.heap[b]? = w1.heap[b]?) : HoldsB base w' v' (l ++ [d]) (vs ++ [u]) := by
  have h1 := h.below hb
  refine ⟨by simp [h.len], by rw [List.length_append, flatH_snoc l vs d u h.len]; exact ho, fun j y z e1 e2 => ?_, ?_⟩
  · by_cases hj : j < l.length
    · rw [List.getElem?_append_left hj] at e1
      rw [List.getElem?_append_left (by rw [h.len]; exact hj)] at e2
      exact own_hold (h1.each j y z e1 e2) h1.own (by decide) hold
    · have hjl : j = l.length := by
        have := (List.getElem?_eq_some_iff.1 e1).1
        simp at this
        omega
      subst hjl
      simp only [List.getElem?_concat_length, Option.some.injEq] at e1
      rw [← h.len] at e2
      simp only [List.getElem?_concat_length, Option.some.injEq] at e2
      subst e1 e2
      exact own_mono (own_hold hu h1.own (by decide) hold) hle
  · refine List.pairwise_append.2 ⟨h.apart, by simp, fun x hx y hy => ?_⟩
    simp only [List.mem_cons, List.not_mem_nil, or_false] at hy
    subst hy
    intro b e1 e2
    obtain ⟨j, hj⟩ := List.mem_iff_getElem?.1 hx
    have hjl : j < l.length := by rw [← h.len]; exact (List.getElem?_eq_some_iff.1 hj).1
    have := ((h.each j _ x (List.getElem?_eq_getElem hjl) hj).lt b e1).2
    have := (hu.lt b e2).1
    omega

set_option maxHeartbeats 8000000 in
set_option maxRecDepth 100000 in
theorem tellWholes_any (h : KV w kb tb mb g P ι s rv wv qv) (f : Int) :
    Calls Tryz.prog 56 #[.pointer (some ⟨kb, 0, none⟩), .int .i64 f] w fun e w' => ∃ v' vs, e = .returned v' ∧ HoldsB w.heap.size w' v' (s.holds f) vs ∧ Below w.heap.size w w' := by
  obtain ⟨rx, wx, hr, ⟨l, hlN, hl100, hw, hhd⟩, hl12, hat⟩ := at_any h f
  obtain ⟨ra, rc, rfl⟩ := own_form hr
  obtain ⟨wa, wc, rfl⟩ := own_form hw
  rw [hhd]
  rw [renW_len] at *
  have HW := Hid.mk hw
  have HA := Hid.mk hat
  have hfl := fun W => (run_field_locked (.slice ra (s.runs f).length rc) (.slice wa l.length wc) W).2
  have HU := Hid.mk (fun (W : World) (hb : Below w.heap.size w W) (x : Wl) (hx : x ∈ l) => Users_any (h.t.of_block (hb.block tb h.t.lt)) (h.m.of_block (hb.block mb h.m.lt)) (ι x.o) ((h.opn (hlN x hx)).below hb) (fun q d y e => (h.opnG q d y e).below hb))
  have HUE : Hid (∀ x, x ∈ l → usersG (renF ι s.F) (ι x.o) = s.users x.o) := fun x hx => h.rn.users (hlN x hx)
  have hK2 := h.c2
  have hkl := h.lt
  generalize (s.runs f).length = rl at *
  generalize hff : (fun x : Wl => (⟨x.k, s.users x.o⟩ : Hd)) = ff at *
  have HFF := Hid.mk hff
  clear h hr hat hw hlN hhd hff hl12
  go_enter Tryz.func56, Tryz.ntmps56
  go_wp2_with (go_at_call 76; refine HA.out.mono ?_; rintro e w1 ⟨rfl, hb1⟩; have hz1 := hb1.size; have HB1 := Hid.mk hb1; clear hb1)
  go_loopw [5, 13] (fun s5 s13 wr => ∃ (n : Nat) (vs : List Value), s13 = .int .i64 n ∧ n ≤ l.length ∧ Hid (HoldsB w.heap.size wr s5 ((l.take n).map ff) vs) ∧ Hid (Below w.heap.size w wr)) (fun _ s13 _ => l.length - (intOf s13).toNat)
  case atStart => exact ⟨0, [], rfl, Nat.zero_le _, HoldsB.nil _ _, HB1.out⟩
  case round =>
    obtain ⟨n, vs, rfl, hn, HO, HB⟩ := hrel
    have hsz : w.heap.size ≤ wr.heap.size := HB.out.size
    by_cases hlt : n < l.length
    · obtain ⟨x, hx⟩ : ∃ x, l[n]? = some x := ⟨_, List.getElem?_eq_getElem hlt⟩
      have hw2 := HW.out
      obtain ⟨gb, rfl, _, hg, _, hcell⟩ := own_some hw2 (by omega)
      obtain ⟨f0, f1⟩ := flatWl_cell (l := renW ι l) (i := n) (x := ⟨ι x.o, x.k⟩) (by simp [renW, hx])
      have hlt' : (n : Int) < (l.length : Int) := by omega
      have c0 : wr.cell? ⟨gb, n * 2, none⟩ = some (.pointer (some ⟨ι x.o, 0, none⟩)) := (HB.out.cell (p := ⟨gb, n * 2, none⟩) hg).trans ((hcell _ (by omega)).trans f0)
      have c1 : wr.cell? ⟨gb, n * 2 + 1, none⟩ = some (.int .i64 x.k) := (HB.out.cell (p := ⟨gb, n * 2 + 1, none⟩) hg).trans ((hcell _ (by omega)).trans f1)
      have ck : wr.cell? ⟨kb, 2, none⟩ = some (.pointer (some ⟨tb, 0, none⟩)) := (HB.out.cell (p := ⟨kb, 2, none⟩) hkl).trans hK2
      have hfx : ff x = ⟨x.k, s.users x.o⟩ := by rw [← HFF.out]
      have HT : Hid ((l.take (n + 1)).map ff = (l.take n).map ff ++ [⟨x.k, s.users x.o⟩]) := by show _ = _; rw [List.take_add_one, hx]; simp [hfx]
      have hgw : gb < wr.heap.size := by omega
      have hkr : kb < wr.heap.size := by omega
      have hll : ((l.take n).map ff).length ≤ 100 := by simp; omega
      have hmx := List.mem_of_getElem? hx
      have HC := Hid.mk (fun (W : World) (hb : Below w.heap.size w W) => HU.out W hb x hmx)
      rw [HUE.out x hmx] at HC
      generalize (l.take n).map ff = L at *
      generalize s.users x.o = us at *
      obtain ⟨ua, uc, rfl⟩ := own_form HO.out.own
      clear hcell f0 f1 hx hw2 hmx hfx
      go_upto_region 5 with fail
      go_region_held3 (fun u => u.cell? ⟨kb, 2, none⟩ = some (.pointer (some ⟨tb, 0, none⟩)) ∧ u.cell? ⟨wr.heap.size, 0, none⟩ = some (.pointer (some ⟨ι x.o, 0, none⟩)) ∧ u.cell? ⟨wr.heap.size, 1, none⟩ = some (.int .i64 x.k)) (simp [go_sem, World.cell?_alloc_past, *])
        (first
          | (go_at_call 86; refine (HC.out _ ?_).mono ?_; exact (HB.out.alloc hsz _).drew; rintro e w3 ⟨v3, rfl, ho3, hb3⟩; obtain ⟨a3, c3, rfl⟩ := own_form ho3; have hz3 := hb3.size; simp at hz3; have hww : wr.heap.size < w3.heap.size := (by omega); have hkw3 : kb < w3.heap.size := (by omega); have kk : w3.cell? ⟨kb, 2, none⟩ = some (.pointer (some ⟨tb, 0, none⟩)) := ((bcells hb3).1 _ _ (by simp <;> omega)).trans ((World.cell?_alloc_past (w := wr) _ kb 2 hkr).trans ck); have k0 : w3.cell? ⟨wr.heap.size, 0, none⟩ = some (.pointer (some ⟨ι x.o, 0, none⟩)) := ((bcells hb3).1 _ _ (by simp)).trans (by simp); have k1 : w3.cell? ⟨wr.heap.size, 1, none⟩ = some (.int .i64 x.k) := ((bcells hb3).1 _ _ (by simp)).trans (by simp); have HBW : Hid (Below wr.heap.size wr w3) := (((Below.refl _ _).alloc (Nat.le_refl _) _).drew).trans (hb3.mono (by simp)); have HO3 := Hid.mk ho3; clear ho3 hb3)
          | (refine step_snoc (by rfl) _ _ _ (by rfl) Tryz.underlying47 Tryz.infoHold (by rfl) (by decide) (by decide) (by rfl) ((own_below HO.out.own HBW.out).alloc _) (by simp; omega) (by omega) (cs := #[.int .i64 x.k, .slice a3 us.length c3]) (by rfl) (heap_alloc_new w3 _) (by rfl) (by simp [Value.oneCell']) ?_; intro v4 w4 ho4 hb4 hz4 hk4; have hbk := (hk4 wr.heap.size (Nat.lt_of_lt_of_le hww (by simp)) (fun e => by have := (HO.out.own.lt _ e).2; omega)).trans (Below.heap_alloc _ _ _ hww); have hbl := (hk4 kb (by simp; omega) (fun e => by have := (HO.out.own.lt _ e).1; omega)).trans (Below.heap_alloc _ _ _ hkw3); have jk := (World.cell?_of_block (a := ⟨kb, 2, none⟩) hbl).trans kk; have j0 := (World.cell?_of_block (a := ⟨wr.heap.size, 0, none⟩) hbk).trans k0; have j1 := (World.cell?_of_block (a := ⟨wr.heap.size, 1, none⟩) hbk).trans k1; have HO4 := Hid.mk ho4; have HB4 := Hid.mk hb4; have HK4 := Hid.mk hk4; clear ho4 hb4 hk4 hbk hbl))
      go_wp2
      go_roundw
      case rel =>
        refine ⟨n + 1, vs ++ [.slice a3 us.length c3], by go_num, by omega, ?_, ((HB.out.trans (HBW.out.mono hsz)).alloc (by omega) _).trans (HB4.out.mono (by omega))⟩
        rw [HT.out]
        have hb5 : Below wr.heap.size wr (w3.alloc (.cells #[.int .i64 x.k, .slice a3 us.length c3] 55)) := HBW.out.alloc (by omega) _
        exact HO.out.snoc (d := ⟨x.k, us⟩) hb5 (own_mono (own_below HO3.out ((Below.refl _ _).alloc (Nat.le_refl _) _)) (by simp)) hsz HO4.out HK4.out
      case measure => simp [intOf]; omega
    · obtain rfl : n = l.length := by omega
      have HO3 := HO.out
      rw [List.take_of_length_le (Nat.le_refl _)] at HO3
      have HO4 := Hid.mk HO3
      clear HO3
      go_wp2
      go_ret
      exact ⟨_, vs, rfl, HO4.out, HB.out⟩
end
end Go.Proofs.YtaicdjhblbobbaaGreat

/- Contracts of the Kernel's Runs, Holds, Waiting, Kill and New. -/
namespace Go.Proofs.YtaicdjhblbobbaaGreat
open Go.RowKit Go.Lib Go.MuLone

section
variable {w : World} {kb tb mb : Nat} {P : Nat → Prop} {ι : Nat → Nat} {s : DS} {rv wv : Nat → Value} {qv : Value} {B : Nat}
set_option maxHeartbeats 4000000 in
set_option maxRecDepth 100000 in
theorem Runs_any (h : KV w kb tb mb 0 P ι s rv wv qv) (f : Int) :
    Calls Tryz.prog 21 #[.pointer (some ⟨kb, 0, none⟩), .int .i64 f] w fun e w' => ∃ v', e = .returned v' ∧ w'.ownsRow w.heap.size 41 4 v' (s.runs f).length (flatR (s.runs f)) ∧ KV w' kb tb mb 0 P ι s rv wv qv ∧ Kp [kb] w w' := by
  have hlt := h.lt
  have c0 := h.c0
  have cz := h.frz 0
  have h2 := h.setGuard 1
  have HT := Hid.mk (tellRuns_any h2 f)
  have H2 := Hid.mk h2
  generalize s.runs f = R at *
  clear h h2
  go_enter_defers Tryz.func21, Tryz.ntmps21
  go_wp2_with (first
    | (go_at_call 43; refine (lock_free Tryz.muLib ⟨kb, 0, none⟩ _ c0 cz).mono ?_; rintro e w' ⟨rfl, rfl⟩)
    | (go_at_call 45; refine HT.out.mono ?_; rintro e w2 ⟨v2, rfl, ho2, hb2⟩; obtain ⟨a2, c2, rfl⟩ := own_form ho2; have HO2 := Hid.mk ho2; have HB2 := Hid.mk hb2; clear ho2 hb2))
  have hK3 := H2.out.below HB2.out
  have g0 := hK3.c0
  have gz := hK3.frz 0
  refine leaves_cons (f := 44) (args := #[.pointer (some ⟨kb, 0, none⟩)]) (by simp) (by simp [go_sem]) ?_
  refine (unlock_deferred Tryz.muLib ⟨kb, 0, none⟩ .returning _ g0 gz).mono ?_
  rintro e u' w'' ⟨rfl, rfl, rfl⟩
  refine ⟨.slice a2 R.length c2, ?_, _, rfl, ?_, hK3.setGuard 0, ?_⟩
  · simp [results, Tryz.results21, go_sem]
  · exact own_mono (own_kp hK3 (Kp.setCell (by simp)) HO2.out (by decide) (by decide)) (by simp)
  · exact ((Kp.setCell (by simp)).trans (Kp.below HB2.out)).trans (Kp.setCell (by simp))
set_option maxHeartbeats 4000000 in
set_option maxRecDepth 100000 in
theorem Holds_any (h : KV w kb tb mb 0 P ι s rv wv qv) (f : Int) :
    Calls Tryz.prog 27 #[.pointer (some ⟨kb, 0, none⟩), .int .i64 f] w fun e w' => ∃ v' vs, e = .returned v' ∧ HoldsB w.heap.size w' v' (s.holds f) vs ∧ KV w' kb tb mb 0 P ι s rv wv qv ∧ Kp [kb] w w' := by
  have hlt := h.lt
  have c0 := h.c0
  have cz := h.frz 0
  have h2 := h.setGuard 1
  have HT := Hid.mk (tellWholes_any h2 f)
  have H2 := Hid.mk h2
  generalize s.holds f = R at *
  clear h h2
  go_enter_defers Tryz.func27, Tryz.ntmps27
  go_wp2_with (first
    | (go_at_call 43; refine (lock_free Tryz.muLib ⟨kb, 0, none⟩ _ c0 cz).mono ?_; rintro e w' ⟨rfl, rfl⟩)
    | (go_at_call 56; refine HT.out.mono ?_; rintro e w2 ⟨v2, vs, rfl, ho2, hb2⟩; obtain ⟨a2, c2, rfl⟩ := own_form ho2.own; have HO2 := Hid.mk ho2; have HB2 := Hid.mk hb2; clear ho2 hb2))
  have hK3 := H2.out.below HB2.out
  have g0 := hK3.c0
  have gz := hK3.frz 0
  refine leaves_cons (f := 44) (args := #[.pointer (some ⟨kb, 0, none⟩)]) (by simp) (by simp [go_sem]) ?_
  refine (unlock_deferred Tryz.muLib ⟨kb, 0, none⟩ .returning _ g0 gz).mono ?_
  rintro e u' w'' ⟨rfl, rfl, rfl⟩
  have hsz : w.heap.size ≤ (w.setCell ⟨kb, 0, none⟩ (.int .i32 1)).heap.size := by simp
  refine ⟨.slice a2 R.length c2, ?_, _, vs, rfl, ⟨HO2.out.len, ?_, fun j d u e1 e2 => ?_, HO2.out.apart⟩, hK3.setGuard 0, ?_⟩
  · simp [results, Tryz.results27, go_sem]
  · exact own_mono (own_kp hK3 (Kp.setCell (by simp)) HO2.out.own (by decide) (by decide)) hsz
  · exact own_mono (own_kp hK3 (Kp.setCell (by simp)) (HO2.out.each j d u e1 e2) (by decide) (by decide)) hsz
  · exact ((Kp.setCell (by simp)).trans (Kp.below HB2.out)).trans (Kp.setCell (by simp))
set_option maxHeartbeats 4000000 in
set_option maxRecDepth 100000 in
theorem Waiting_any (h : KV w kb tb mb 0 P ι s rv wv qv) :
    Calls Tryz.prog 36 #[.pointer (some ⟨kb, 0, none⟩)] w fun e w' => ∃ v', e = .returned v' ∧ w'.ownsRow w.heap.size 3 1 v' s.waiting.length (ints s.waiting) ∧ KV w' kb tb mb 0 P ι s rv wv qv ∧ Kp [kb] w w' := by
  have hlt := h.lt
  have c0 := h.c0
  have cz := h.frz 0
  have h2 := h.setGuard 1
  have c9 := h2.c9
  have HT := Hid.mk (Procs_any h2.q (by rw [renQ_len]; have := h.sm.ql; omega))
  rw [renQ_len, renQ_map_p] at HT
  have HWL : Hid (s.waiting.length = s.Q.length) := by show _ = _; simp [DS.waiting]
  rw [← HWL.out] at HT
  change Hid (Calls _ _ _ _ fun e w' => ∃ v', e = .returned v' ∧ w'.ownsRow _ _ 1 v' s.waiting.length (ints s.waiting) ∧ _) at HT
  obtain ⟨qa, qc, rfl⟩ := own_form h.q
  have H2 := Hid.mk h2
  generalize s.waiting = R at *
  clear h h2
  go_enter_defers Tryz.func36, Tryz.ntmps36
  go_wp2_with (first
    | (go_at_call 43; refine (lock_free Tryz.muLib ⟨kb, 0, none⟩ _ c0 cz).mono ?_; rintro e w' ⟨rfl, rfl⟩)
    | (go_at_call 62; refine HT.out.mono ?_; rintro e w2 ⟨v2, rfl, ho2, hb2⟩; obtain ⟨a2, c2, rfl⟩ := own_form ho2; have HO2 := Hid.mk ho2; have HB2 := Hid.mk hb2; clear ho2 hb2))
  have hK3 := H2.out.below HB2.out
  have g0 := hK3.c0
  have gz := hK3.frz 0
  refine leaves_cons (f := 44) (args := #[.pointer (some ⟨kb, 0, none⟩)]) (by simp) (by simp [go_sem]) ?_
  refine (unlock_deferred Tryz.muLib ⟨kb, 0, none⟩ .returning _ g0 gz).mono ?_
  rintro e u' w'' ⟨rfl, rfl, rfl⟩
  refine ⟨.slice a2 R.length c2, ?_, _, rfl, ?_, hK3.setGuard 0, ?_⟩
  · simp [results, Tryz.results36, go_sem]
  · exact own_mono (own_kp hK3 (Kp.setCell (by simp)) HO2.out (by decide) (by decide)) (by simp)
  · exact ((Kp.setCell (by simp)).trans (Kp.below HB2.out)).trans (Kp.setCell (by simp))

set_option maxHeartbeats 4000000 in
set_option maxRecDepth 100000 in
theorem Kill_any (h : KV w kb tb mb 0 P ι s rv wv qv) (hP : ∀ b, B ≤ b → P b) (hB : B ≤ w.heap.size) (hinv : s.Inv) (p : Int) :
    Calls Tryz.prog 28 #[.pointer (some ⟨kb, 0, none⟩), .int .i64 p] w fun e w' => Done w w' kb tb mb P e (s.kill p).2 (s.kill p).1 := by
  have hlt := h.lt
  have h1 : KV (w.alloc (.cells #[.int .i64 0, .int .i64 0, .slice none 0 0] 34)) kb tb mb 0 P ι s rv wv qv := h.below ((Below.refl _ _).alloc (Nat.le_refl _) _)
  have c0 := h1.c0
  have cz := h1.frz 0
  have h2 : KV ((w.setCell ⟨kb, 0, none⟩ (.int .i32 1)).alloc (.cells #[.int .i64 0, .int .i64 0, .slice none 0 0] 34)) kb tb mb 1 P ι s rv wv qv := (h.setGuard 1).below ((Below.refl _ _).alloc (Nat.le_refl _) _)
  have htl := h.t.lt
  have hml := h.m.lt
  obtain ⟨t, f, ht, hr, hkl⟩ : ∃ (t : DS) (f : Int), t.Bas ∧ s.kill p = t.done 0 f ∧ (∀ (W : World), KV W kb tb mb 1 P ι s rv wv qv → B ≤ W.heap.size → Calls Tryz.prog 58 #[.pointer (some ⟨kb, 0, none⟩), .int .i64 p] W fun e w' => e = .returned (.int .i64 f) ∧ (∃ rv' wv' qv', KV w' kb tb mb 1 P ι t rv' wv' qv') ∧ Kp [kb, tb, mb] W w') := by
    cases hl : liveB s.L p
    · refine ⟨s, 1, hinv.toBas, ?_, fun W hW _ => (kill_no hW p hl).mono ?_⟩
      · unfold DS.kill; rw [if_pos hl, DS.done_err s (by decide)]
      · rintro e w' ⟨rfl, rfl⟩
        exact ⟨rfl, ⟨rv, wv, qv, hW⟩, Kp.refl _ _⟩
    · refine ⟨s.gone p, 0, hinv.toBas.gone p hl, ?_, fun W hW hBW => kill_yes hW hP hBW hinv.toBas p hl⟩
      unfold DS.kill; rw [if_neg (by rw [hl]; decide)]; rfl
  have HKI := Hid.mk (hkl _ h2 (by simp; omega))
  have HT := Hid.mk ht
  rw [hr]
  generalize hrr : t.done 0 f = r at *
  have HR := Hid.mk hrr
  have HE1 : Hid (Kp [kb, tb, mb] w ((w.setCell ⟨kb, 0, none⟩ (.int .i32 1)).alloc (.cells #[.int .i64 0, .int .i64 0, .slice none 0 0] 34))) := (Kp.setCell (by simp)).trans (Kp.below ((Below.refl _ _).alloc (Nat.le_refl _) _))
  clear h h1 h2 hinv hkl ht hr hrr
  go_enter_defers Tryz.func28, Tryz.ntmps28
  go_wp2_with (first
    | (go_at_call 43; refine (lock_free Tryz.muLib ⟨kb, 0, none⟩ _ c0 cz).mono ?_; rintro e w' ⟨rfl, rfl⟩)
    | (go_at_call 58; refine HKI.out.mono ?_; rintro e w4 ⟨rfl, ⟨rv4, wv4, qv4, hkv4⟩, hkp4⟩; have hz4 := hkp4.size; simp at hz4; have hA := answer_any hkv4 hP (by omega) HT.out 0 f; rw [HR.out] at hA; unfold rpV at hA; have HA := Hid.mk hA; have HKP4 := Hid.mk hkp4; clear hkv4 hkp4 hA)
    | (go_at_call 57; refine HA.out.mono ?_; rintro e w3 ⟨v3, rfl, ho3, ⟨rv', wv', qv', hkv⟩, hkp⟩; obtain ⟨hblk, hq2⟩ := result_block (bs := [kb, tb, mb]) (HKP4.out.trans (hkp.mono (by simp))) (fun x hx => by simp at hx; omega); obtain ⟨a3, c3, rfl⟩ := own_form ho3; obtain ⟨q0, q1, q2, qz⟩ := reply_block hblk; have qz0 := qz 0; have qz1 := qz 1; have qz2 := qz 2; have HBK := Hid.mk hblk; have HO3 := Hid.mk ho3; have HKV := Hid.mk hkv; have HKP := Hid.mk (HKP4.out.trans (hkp.mono (cs := [kb, tb, mb]) (by simp))); clear ho3 hkv hkp hblk qz))
  have hK4 := HKV.out.reply3 HBK.out (.int .i64 r.2.e) (.int .i64 r.2.n) (.slice a3 r.2.d.length c3)
  have hO4 := own_reply3 HO3.out HBK.out (by decide) (.int .i64 r.2.e) (.int .i64 r.2.n) (.slice a3 r.2.d.length c3)
  have hfin := reply_set HBK.out (.int .i64 r.2.e) (.int .i64 r.2.n) (.slice a3 r.2.d.length c3)
  have g0 := hK4.c0
  have gz := hK4.frz 0
  refine leaves_cons (f := 44) (args := #[.pointer (some ⟨kb, 0, none⟩)]) (by simp) (by simp [go_sem]) ?_
  refine (unlock_deferred Tryz.muLib ⟨kb, 0, none⟩ .returning _ g0 gz).mono ?_
  rintro e u' w'' ⟨rfl, rfl, rfl⟩
  have hfin2 := (Below.heap_setCell (((w3.setCell ⟨w.heap.size, 0, none⟩ (.int .i64 r.2.e)).setCell ⟨w.heap.size, 1, none⟩ (.int .i64 r.2.n)).setCell ⟨w.heap.size, 2, none⟩ (.slice a3 r.2.d.length c3)) ⟨kb, 0, none⟩ (.int .i32 0) w.heap.size (by simp; omega)).trans hfin
  obtain ⟨y0, y1, y2, _⟩ := reply_block hfin2
  have hK5 := hK4.setGuard 0
  refine ⟨rpV r.2 (.slice a3 r.2.d.length c3), ?_, _, rfl, ?_, ⟨ι, rv', wv', qv', hK5⟩, ?_⟩
  · simp [results, Tryz.results28, go_sem, y0, y1, y2, rpV]
  · exact own_mono (own_kp hK4 (Kp.setCell (by simp)) hO4 (by decide) (by decide)) (by omega)
  · exact ((((HE1.out.trans HKP.out).newCell (Nat.le_refl _) _).newCell (Nat.le_refl _) _).newCell (Nat.le_refl _) _).trans (Kp.setCell (by simp))

set_option maxHeartbeats 4000000 in
set_option maxRecDepth 100000 in
theorem New_any (w : World) :
    Calls Tryz.prog 31 #[] w fun e w' => ∃ kb tb mb rv wv qv, e = .returned (.pointer (some ⟨kb, 0, none⟩)) ∧ KV w' kb tb mb 0 (fun b => w.heap.size ≤ b) (fun _ => 0) DS.new rv wv qv ∧ Below w.heap.size w w' := by
  go_enter Tryz.func31, Tryz.ntmps31
  go_wp2_with (go_at_call 59; refine (procsNew_any w).mono ?_; rintro e w' ⟨tb, mb, rfl, ht, hm, hb, h1, h2⟩; have HT := Hid.mk ht; have HM := Hid.mk hm; have HB := Hid.mk hb; clear ht hm hb)
  go_ret
  have hz := HB.out.size
  refine ⟨w'.heap.size, tb, mb, fun _ => .slice none 0 0, fun _ => .slice none 0 0, .slice none 0 0, rfl, ⟨heap_alloc_new w' _, HT.out.of_block (Below.heap_alloc _ _ _ HT.out.lt), ?_, fun o ho => absurd ho (Nat.not_lt_zero _), fun a b ha => absurd ha (Nat.not_lt_zero _), fun i _ => World.ownsRow_nil _ _ _ _, fun i _ => World.ownsRow_nil _ _ _ _, World.ownsRow_nil _ _ _ _, ⟨hz, h1, h2⟩, fun o ho => absurd ho (Nat.not_lt_zero _), fun i _ b e => (by cases e), fun i _ b e => (by cases e), fun b e => (by cases e), DS.Inv.new.toBas.sm⟩, HB.out.alloc (by omega) _⟩
  exact (HM.out.of_block (Below.heap_alloc _ _ _ HM.out.lt)).congr fun q e => rfl
end
end Go.Proofs.YtaicdjhblbobbaaGreat
