/- Contracts of package wholes: the locks of one whole file. -/
import Derived.Test.YtaicdjhblbobbaaGreatPBiters
import Derived.Test.YtaicdjhblbobbaaGreatPCut
import Derived.Shelf.Abstract
import Derived.Test.YtaicdjhblbobbaaGreatPInsert
import Derived.Lib.SliceRun
import Derived.Laws.IdiomCopy
namespace Go.Proofs.YtaicdjhblbobbaaGreat
open Go.RowKit Go.Lib

def wcells (x : Wl) : List Value := [.pointer (some ⟨x.o, 0, none⟩), .int .i64 x.k]
def flatWl (l : List Wl) : List Value := l.flatMap wcells
theorem wcells_len (x : Wl) : (wcells x).length = 2 := rfl
theorem flatWl_cell {l : List Wl} {i : Nat} {x : Wl} (h : l[i]? = some x) : (flatWl l)[i * 2]? = some (.pointer (some ⟨x.o, 0, none⟩)) ∧ (flatWl l)[i * 2 + 1]? = some (.int .i64 x.k) :=
  ⟨flat_get wcells 2 wcells_len l i 0 x h (by omega), flat_get wcells 2 wcells_len l i 1 x h (by omega)⟩

set_option maxHeartbeats 1000000 in
set_option maxRecDepth 100000 in
theorem wBites_any (o : Option Nat) (k : Int) (o' : Option Nat) (k' : Int) (w : World) (h : ∀ b, o = some b → Opn w b) (h' : ∀ b, o' = some b → Opn w b) :
    Calls Tryz.prog 173 #[.agg #[ptrV o, .int .i64 k], .agg #[ptrV o', .int .i64 k']] w fun e w' => e = .returned (.bool (bitesW o k o' k')) ∧ Below w.heap.size w w' := by
  have hb : Below w.heap.size w ((w.alloc (.cells #[ptrV o, .int .i64 k] 135)).alloc (.cells #[ptrV o', .int .i64 k'] 135)) := ((Below.refl _ _).alloc (Nat.le_refl _) _).alloc (by simp) _
  have hq := run_neq_opn (w := (w.alloc (.cells #[ptrV o, .int .i64 k] 135)).alloc (.cells #[ptrV o', .int .i64 k'] 135)) (fun b e => (h b e).below hb) (fun b e => (h' b e).below hb)
  have HB := Hid.mk hb
  clear hb h h'
  by_cases he : o = o'
  · have HE := Hid.mk he
    have hd : decide (o ≠ o') = false := by simpa using he
    rw [hd] at hq
    clear he hd
    unfold ptrV at *
    generalize o.map (fun b => (⟨b, 0, none⟩ : Addr)) = A at *
    generalize o'.map (fun b => (⟨b, 0, none⟩ : Addr)) = A' at *
    go_enter Tryz.func173, Tryz.ntmps173
    go_wp2
    go_ret
    exact ⟨ret_bool (by simp [bitesW, HE.out]), HB.out⟩
  · have HE := Hid.mk he
    have hd : decide (o ≠ o') = true := by simpa using he
    rw [hd] at hq
    clear he hd
    unfold ptrV at *
    generalize o.map (fun b => (⟨b, 0, none⟩ : Addr)) = A at *
    generalize o'.map (fun b => (⟨b, 0, none⟩ : Addr)) = A' at *
    go_enter Tryz.func173, Tryz.ntmps173
    go_wp2_with (go_at_call 160; refine (Bite_any _ _ _).mono ?_; rintro e w' ⟨rfl, rfl⟩)
    go_ret
    exact ⟨ret_bool (by simp [bitesW, HE.out]), HB.out⟩
def wbP (l : List Wl) (o : Option Nat) (k : Int) : List Nat := (l.filter fun x => bitesW (some x.o) x.k o k).map (·.o)
def ptrs (l : List Nat) : List Value := l.map fun b => .pointer (some ⟨b, 0, none⟩)
theorem ptrs_snoc (l : List Nat) (b : Nat) : ptrs (l ++ [b]) = ptrs l ++ [.pointer (some ⟨b, 0, none⟩)] := by simp [ptrs]
theorem wbP_snoc {l : List Wl} {o : Option Nat} {k : Int} {n : Nat} {x : Wl} (h : l[n]? = some x) : wbP (l.take (n + 1)) o k = wbP (l.take n) o k ++ (if bitesW (some x.o) x.k o k = true then [x.o] else []) := by
  unfold wbP
  rw [List.take_add_one, h, List.filter_append, List.map_append]
  congr 1
  cases hb : bitesW (some x.o) x.k o k <;> simp [hb]
theorem wbP_len (l : List Wl) (o : Option Nat) (k : Int) : (wbP l o k).length ≤ l.length := by
  unfold wbP; rw [List.length_map]; exact List.length_filter_le _ _
theorem Tryz.infoPtr : (Tryz.prog.info? 133).map (fun i => (i.zero, i.size, i.bytes)) = some (some (.pointer none), 1, 8) := by kernel_rfl
theorem Tryz.infoWlock : (Tryz.prog.info? 135).map (fun i => (i.zero, i.size, i.bytes)) = some (some (.agg #[.pointer none, .int .i64 0]), 2, 16) := by kernel_rfl

set_option maxHeartbeats 4000000 in
set_option maxRecDepth 100000 in
theorem wBiters_any {v : Value} {l : List Wl} (o : Option Nat) (k : Int) {w : World} (hv : w.ownsRow 0 135 2 v l.length (flatWl l)) (hl : l.length < 90000) (hO : ∀ x, x ∈ l → Opn w x.o) (ho : ∀ b, o = some b → Opn w b) :
    Calls Tryz.prog 146 #[v, .agg #[ptrV o, .int .i64 k]] w fun e w' => ∃ v', e = .returned v' ∧ w'.ownsRow w.heap.size 133 1 v' (wbP l o k).length (ptrs (wbP l o k)) ∧ Below w.heap.size w w' := by
  obtain ⟨a, c, rfl⟩ := own_form hv
  have HV := Hid.mk hv
  have HOp := Hid.mk hO
  have HoP := Hid.mk ho
  clear hv hO ho
  go_enter Tryz.func146, Tryz.ntmps146
  go_wp2
  go_loopw [5, 10] (fun s5 s10 wr => ∃ n : Nat, s10 = .int .i64 n ∧ n ≤ l.length ∧ Hid (wr.ownsRow (w.heap.size + 1) 133 1 s5 (wbP (l.take n) o k).length (ptrs (wbP (l.take n) o k))) ∧ Hid (Below (w.heap.size + 1) (w.alloc (.cells #[ptrV o, .int .i64 k] 135)) wr)) (fun _ s10 _ => l.length - (intOf s10).toNat)
  case atStart => exact ⟨0, rfl, Nat.zero_le _, World.ownsRow_nil _ _ _ _, Below.refl _ _⟩
  case round =>
    obtain ⟨n, rfl, hn, HO, HB⟩ := hrel
    have hsz : w.heap.size + 1 ≤ wr.heap.size := by have := HB.out.size; simpa using this
    by_cases hlt : n < l.length
    · obtain ⟨x, hx⟩ : ∃ x, l[n]? = some x := ⟨_, List.getElem?_eq_getElem hlt⟩
      obtain ⟨g, rfl, _, hg, _, hcell⟩ := own_some HV.out (by omega)
      obtain ⟨f0, f1⟩ := flatWl_cell hx
      have hlt' : (n : Int) < (l.length : Int) := by omega
      have hb1 : Below w.heap.size w wr := ((Below.refl w.heap.size w).alloc (Nat.le_refl _) _).trans (HB.out.mono (Nat.le_succ _))
      have c0 : wr.cell? ⟨g, n * 2, none⟩ = some (.pointer (some ⟨x.o, 0, none⟩)) := (hb1.cell (p := ⟨g, n * 2, none⟩) hg).trans ((hcell _ (by omega)).trans f0)
      have c1 : wr.cell? ⟨g, n * 2 + 1, none⟩ = some (.int .i64 x.k) := (hb1.cell (p := ⟨g, n * 2 + 1, none⟩) hg).trans ((hcell _ (by omega)).trans f1)
      obtain ⟨hcc, _⟩ := bcells (W := w.alloc (.cells #[ptrV o, .int .i64 k] 135)) (by simpa using HB.out)
      have d0 := hcc w.heap.size 0 (by simp)
      have d1 := hcc w.heap.size 1 (by simp)
      simp at d0 d1
      have HS := Hid.mk (wbP_snoc (o := o) (k := k) hx)
      have hln := wbP_len (l.take n) o k
      simp only [List.length_take] at hln
      have hgw : g < wr.heap.size := by omega
      have hww : w.heap.size < wr.heap.size := by omega
      have HC := Hid.mk (wBites_any (some x.o) x.k o k (wr.alloc (.cells #[.pointer (some ⟨x.o, 0, none⟩), .int .i64 x.k] 135)) (fun b e => by cases e; exact ((HOp.out x (List.mem_of_getElem? hx)).below hb1).below ((Below.refl _ _).alloc (Nat.le_refl _) _)) (fun b e => ((HoP.out b e).below hb1).below ((Below.refl _ _).alloc (Nat.le_refl _) _)))
      clear hcell f0 f1 hcc hx hb1
      cases hbt : bitesW (some x.o) x.k o k
      · have HT := Hid.mk hbt
        rw [hbt] at HC
        clear hbt
        go_wp2_with (go_at_call 173; refine HC.out.mono ?_; rintro e w1 ⟨rfl, hb2⟩; have HB2 := Hid.mk hb2; clear hb2)
        go_roundw
        case rel =>
          have hz2 := HB2.out.size
          simp at hz2
          have hbw : Below wr.heap.size wr w1 := ((Below.refl _ _).alloc (Nat.le_refl _) _).trans (HB2.out.mono (by simp))
          refine ⟨n + 1, by go_num, by omega, ?_, HB.out.trans (hbw.mono (by omega))⟩
          rw [HS.out, HT.out]
          simp only [Bool.false_eq_true, if_false, List.append_nil]
          exact own_below HO.out hbw
        case measure => simp [intOf]; omega
      · have HT := Hid.mk hbt
        rw [hbt] at HC
        clear hbt
        go_wp2_with (first
          | (go_at_call 173; refine HC.out.mono ?_; rintro e w1 ⟨rfl, hb2⟩; have hz2 := hb2.size; simp at hz2; have e0 : w1.cell? ⟨wr.heap.size, 0, none⟩ = some (.pointer (some ⟨x.o, 0, none⟩)) := ((bcells hb2).1 _ _ (by simp)).trans (by simp); have HB2 := Hid.mk hb2; clear hb2)
          | (at_builtin; refine wpList_snoc rfl _ _ _ rfl Tryz.underlying228 Tryz.infoPtr rfl (by decide) (by decide) rfl (own_below HO.out (((Below.refl _ _).alloc (Nat.le_refl _) _).trans (HB2.out.mono (by simp)))) (by omega) (by omega) (cs := #[.pointer (some ⟨x.o, 0, none⟩)]) rfl (by simp) rfl (by simp [Value.oneCell']) ?_; intro v2 w2 ho2 hb3 hz3 hold3; have HO2 := Hid.mk ho2; have HB3 := Hid.mk hb3; clear ho2 hb3 hold3))
        go_roundw
        case rel =>
          have hbw : Below wr.heap.size wr w1 := ((Below.refl _ _).alloc (Nat.le_refl _) _).trans (HB2.out.mono (by simp))
          refine ⟨n + 1, by go_num, by omega, ?_, ?_⟩
          · rw [HS.out, HT.out]
            simp only [if_true, List.length_append, ptrs_snoc]
            exact HO2.out
          · exact (HB.out.trans (hbw.mono hsz)).trans HB3.out
        case measure => simp [intOf]; omega
    · obtain rfl : n = l.length := by omega
      have HO3 := HO.out
      rw [List.take_of_length_le (Nat.le_refl _)] at HO3
      have HO4 := Hid.mk HO3
      clear HO3
      go_wp2
      go_ret
      exact ⟨_, rfl, own_mono HO4.out (Nat.le_succ _), ((Below.refl w.heap.size w).alloc (Nat.le_refl _) _).trans (HB.out.mono (Nat.le_succ _))⟩

theorem flatWl_snoc {l : List Wl} {f : Wl → Bool} {n : Nat} {x : Wl} (h : l[n]? = some x) : (l.take (n + 1)).filter f = (l.take n).filter f ++ (if f x = true then [x] else []) := by
  rw [List.take_add_one, h, List.filter_append]
  congr 1
  cases hb : f x <;> simp [hb]
theorem flatWl_app (l : List Wl) (x : Wl) : flatWl (l ++ [x]) = flatWl l ++ wcells x := by simp [flatWl]

set_option maxHeartbeats 4000000 in
set_option maxRecDepth 100000 in
theorem Keep_any {v : Value} {l : List Wl} (f : Nat → Bool) {w : World} (g : Nat) (fs lb : Array Value) (eg : ∀ args w, (callFunc g args).run Tryz.prog w = .ok (.enter g args) w)
    (hv : w.ownsRow 0 135 2 v l.length (flatWl l)) (hl : l.length < 90000)
    (hp : ∀ (W : World) (x : Wl), x ∈ l → Below w.heap.size w W → Calls Tryz.prog g (fs ++ #[.pointer (some ⟨x.o, 0, none⟩)] ++ lb) W fun e w' => e = .returned (.bool (f x.o)) ∧ Below W.heap.size W w') :
    Calls Tryz.prog 127 #[v, .func (.func g) fs lb] w fun e w' => ∃ v', e = .returned v' ∧ w'.ownsRow w.heap.size 135 2 v' (l.filter fun x => f x.o).length (flatWl (l.filter fun x => f x.o)) ∧ Below w.heap.size w w' := by
  obtain ⟨a, c, rfl⟩ := own_form hv
  have HV := Hid.mk hv
  have HP := Hid.mk hp
  clear hv hp
  go_enter Tryz.func127, Tryz.ntmps127
  go_wp2
  go_loopw [5, 10] (fun s5 s10 wr => ∃ n : Nat, s10 = .int .i64 n ∧ n ≤ l.length ∧ Hid (wr.ownsRow w.heap.size 135 2 s5 ((l.take n).filter fun x => f x.o).length (flatWl ((l.take n).filter fun x => f x.o))) ∧ Hid (Below w.heap.size w wr)) (fun _ s10 _ => l.length - (intOf s10).toNat)
  case atStart => exact ⟨0, rfl, Nat.zero_le _, World.ownsRow_nil _ _ _ _, Below.refl _ _⟩
  case round =>
    obtain ⟨n, rfl, hn, HO, HB⟩ := hrel
    have hsz : w.heap.size ≤ wr.heap.size := HB.out.size
    by_cases hlt : n < l.length
    · obtain ⟨x, hx⟩ : ∃ x, l[n]? = some x := ⟨_, List.getElem?_eq_getElem hlt⟩
      obtain ⟨gb, rfl, _, hg, _, hcell⟩ := own_some HV.out (by omega)
      obtain ⟨f0, f1⟩ := flatWl_cell hx
      have hlt' : (n : Int) < (l.length : Int) := by omega
      have c0 : wr.cell? ⟨gb, n * 2, none⟩ = some (.pointer (some ⟨x.o, 0, none⟩)) := (HB.out.cell (p := ⟨gb, n * 2, none⟩) hg).trans ((hcell _ (by omega)).trans f0)
      have c1 : wr.cell? ⟨gb, n * 2 + 1, none⟩ = some (.int .i64 x.k) := (HB.out.cell (p := ⟨gb, n * 2 + 1, none⟩) hg).trans ((hcell _ (by omega)).trans f1)
      have HS := Hid.mk (flatWl_snoc (f := fun x => f x.o) hx)
      have hln : ((l.take n).filter fun x => f x.o).length ≤ n := Nat.le_trans (List.length_filter_le _ _) (by simp; omega)
      have hgw : gb < wr.heap.size := by omega
      have HC := Hid.mk (HP.out (wr.alloc (.cells #[.pointer (some ⟨x.o, 0, none⟩), .int .i64 x.k] 135)) x (List.mem_of_getElem? hx) (HB.out.alloc hsz _))
      clear hcell f0 f1 hx
      cases hbt : f x.o
      · have HT := Hid.mk hbt
        rw [hbt] at HC
        clear hbt
        go_wp2_with (go_at_fn g; refine HC.out.mono ?_; rintro e w1 ⟨rfl, hb2⟩; have HB2 := Hid.mk hb2; clear hb2)
        go_roundw
        case rel =>
          have hbw : Below wr.heap.size wr w1 := ((Below.refl _ _).alloc (Nat.le_refl _) _).trans (HB2.out.mono (by simp))
          refine ⟨n + 1, by go_num, by omega, ?_, HB.out.trans (hbw.mono hsz)⟩
          rw [HS.out, HT.out]
          simp only [Bool.false_eq_true, if_false, List.append_nil]
          exact own_below HO.out hbw
        case measure => simp [intOf]; omega
      · have HT := Hid.mk hbt
        rw [hbt] at HC
        clear hbt
        go_wp2_with (first
          | (go_at_fn g; refine HC.out.mono ?_; rintro e w1 ⟨rfl, hb2⟩; have hz2 := hb2.size; simp at hz2; have e0 : w1.cell? ⟨wr.heap.size, 0, none⟩ = some (.pointer (some ⟨x.o, 0, none⟩)) := ((bcells hb2).1 _ _ (by simp)).trans (by simp); have e1 : w1.cell? ⟨wr.heap.size, 1, none⟩ = some (.int .i64 x.k) := ((bcells hb2).1 _ _ (by simp)).trans (by simp); have HB2 := Hid.mk hb2; clear hb2)
          | (at_builtin; refine wpList_snoc rfl _ _ _ rfl Tryz.underlying93 Tryz.infoWlock rfl (by decide) (by decide) rfl (own_below HO.out (((Below.refl _ _).alloc (Nat.le_refl _) _).trans (HB2.out.mono (by simp)))) (by omega) (by omega) (cs := #[.pointer (some ⟨x.o, 0, none⟩), .int .i64 x.k]) rfl (by simp) rfl (by simp [Value.oneCell']) ?_; intro v2 w2 ho2 hb3 hz3 hold3; have HO2 := Hid.mk ho2; have HB3 := Hid.mk hb3; clear ho2 hb3 hold3))
        go_roundw
        case rel =>
          have hbw : Below wr.heap.size wr w1 := ((Below.refl _ _).alloc (Nat.le_refl _) _).trans (HB2.out.mono (by simp))
          refine ⟨n + 1, by go_num, by omega, ?_, ?_⟩
          · rw [HS.out, HT.out]
            simp only [if_true, List.length_append, flatWl_app]
            exact HO2.out
          · exact (HB.out.trans (hbw.mono hsz)).trans HB3.out
        case measure => simp [intOf]; omega
    · obtain rfl : n = l.length := by omega
      have HO3 := HO.out
      rw [List.take_of_length_le (Nat.le_refl _)] at HO3
      have HO4 := Hid.mk HO3
      clear HO3
      go_wp2
      go_ret
      exact ⟨_, rfl, HO4.out, HB.out⟩
end Go.Proofs.YtaicdjhblbobbaaGreat

/- Contracts of the table, on: who has a descriptor of an opening. -/
namespace Go.Proofs.YtaicdjhblbobbaaGreat
open Go.RowKit Go.Lib

theorem MapAt.look0 {w : World} {mb : Nat} {F : Int → Int → Option Nat} (h : MapAt w mb F) (W : World) (hW : W.heap[mb]? = w.heap[mb]?) (p d : Int) :
    (Instr.lookup 154 (.map (some mb)) (.agg #[.int .i64 p, .int .i64 d]) false).run Tryz.prog W = .ok (ptrV (F p d)) W := by
  obtain ⟨es, c, M, h1, h2, h3, h4⟩ := h
  have hb := hW.trans h1
  have hf := h2.findKey p d W
  rw [← h4, lookM_find]
  simp only [Instr.lookup, Sem.run_bind, run_underlying Tryz.underlying154, Result.andThen_ok]
  simp only [getObj, Sem.run, hb]
  simp only [Result.andThen_ok, Sem.run_bind, Sem.run_pure, run_check_place, hf]
  cases hj : (findM M p d) with
  | none => simp [ptrV]
  | some j =>
    cases hx : M[j]? with
    | none => simp [hx, ptrV]
    | some x => simp [hx, ptrV]
/-- Has the process a descriptor of the opening in block b? -/
def hasG (G : Int → Int → Option Nat) (b : Nat) (p : Int) : Bool := ds5.any fun d => decide (G p d = some b)
def usersG (G : Int → Int → Option Nat) (b : Nat) : List Int := ps6.filter (hasG G b)

set_option maxHeartbeats 2000000 in
set_option maxRecDepth 100000 in
theorem has_any {w : World} {tb mb : Nat} {L : Nat → Bool} {G : Int → Int → Option Nat} (h : Tab w tb mb L) (hm : MapAt w mb G) (p : Int) (b : Nat) (hb : Opn w b) (hG : ∀ q d x, G q d = some x → Opn w x) :
    Calls Tryz.prog 129 #[.pointer (some ⟨tb, 0, none⟩), .int .i64 p, .pointer (some ⟨b, 0, none⟩)] w fun e w' => e = .returned (.bool (hasG G b p)) ∧ w' = w := by
  have hmc := h.mapCell
  have HL := Hid.mk (fun d => hm.look0 w rfl p d)
  have HQ := Hid.mk (fun d => run_eql_opn (w := w) (o := G p d) (o' := some b) (fun x e => hG p d x e) (fun x e => by cases e; exact hb))
  clear h hm hb hG
  have key : ∀ n : Nat, n < 5 → ((n : Int) ∈ ds5) := fun n hn => mem_ds5.2 ⟨by omega, by omega⟩
  have HK := Hid.mk key
  clear key
  go_enter Tryz.func129, Tryz.ntmps129
  go_wp2
  go_loop [7, 8] (fun _ s8 => ∃ n : Nat, s8 = .int .i64 n ∧ n ≤ 5 ∧ Hid (∀ j : Nat, j < n → G p j ≠ some b)) (fun _ s8 => 5 - (intOf s8).toNat)
  case atStart => exact ⟨0, rfl, Nat.zero_le _, fun j hj => absurd hj (Nat.not_lt_zero _)⟩
  case round =>
    obtain ⟨n, rfl, hn, HF⟩ := hrel
    by_cases hlt : n < 5
    · have hlt' : (n : Int) < 5 := by omega
      have hlk := HL.out n
      have hq := HQ.out n
      by_cases hg : G p n = some b
      · have HG := Hid.mk hg
        rw [hg] at hlk hq
        simp only [decide_true, ptrV, Option.map_some] at hlk hq
        clear hg
        go_wp2
        go_ret
        refine ⟨ret_bool ?_, rfl⟩
        symm
        exact List.any_eq_true.2 ⟨n, HK.out n hlt, by simpa using HG.out⟩
      · have HG := Hid.mk hg
        have hd : decide (G p n = some b) = false := by simpa using hg
        rw [hd] at hq
        unfold ptrV at hlk hq
        generalize (G p n).map (fun b => (⟨b, 0, none⟩ : Addr)) = A at *
        simp only [Option.map_some] at hq
        clear hg hd
        go_wp2
        go_round
        case rel =>
          refine ⟨n + 1, by go_num, by omega, fun j hj => ?_⟩
          by_cases e : j = n
          · subst e; exact HG.out
          · exact HF.out j (by omega)
        case measure => simp [intOf]; omega
    · obtain rfl : n = 5 := by omega
      go_wp2
      go_ret
      refine ⟨ret_bool ?_, rfl⟩
      symm
      rw [hasG, List.any_eq_false]
      intro d hd
      obtain ⟨h0, h5⟩ := mem_ds5.1 hd
      obtain ⟨j, rfl⟩ : ∃ j : Nat, d = (j : Int) := ⟨d.toNat, by omega⟩
      simpa using HF.out j (by omega)
theorem ps6_take (n : Nat) (h : n < 6) : ps6[n]? = some (n : Int) := by
  match n, h with
  | 0, _ | 1, _ | 2, _ | 3, _ | 4, _ | 5, _ => rfl
theorem users_snoc {f : Int → Bool} {n : Nat} (h : n < 6) : (ps6.take (n + 1)).filter f = (ps6.take n).filter f ++ (if f n = true then [(n : Int)] else []) := by
  rw [List.take_add_one, ps6_take n h, List.filter_append]
  congr 1
  cases hb : f n <;> simp [hb]

set_option maxHeartbeats 4000000 in
set_option maxRecDepth 100000 in
theorem Users_any {w : World} {tb mb : Nat} {L : Nat → Bool} {G : Int → Int → Option Nat} (h : Tab w tb mb L) (hm : MapAt w mb G) (b : Nat) (hb : Opn w b) (hG : ∀ q d x, G q d = some x → Opn w x) :
    Calls Tryz.prog 86 #[.pointer (some ⟨tb, 0, none⟩), .pointer (some ⟨b, 0, none⟩)] w fun e w' => ∃ v', e = .returned v' ∧ w'.ownsRow w.heap.size 3 1 v' (usersG G b).length (ints (usersG G b)) ∧ Below w.heap.size w w' := by
  have HC := Hid.mk (fun (W : World) (hW : Below w.heap.size w W) (p : Int) => has_any (h.of_block (hW.block tb h.lt)) (hm.of_block (hW.block mb hm.lt)) p b (hb.below hW) (fun q d x e => (hG q d x e).below hW))
  have HU := Hid.mk (show usersG G b = ps6.filter (hasG G b) from rfl)
  rw [HU.out]
  clear h hm hb hG HU
  generalize hasG G b = f at *
  go_enter Tryz.func86, Tryz.ntmps86
  go_wp2
  go_loopw [5, 6, 7] (fun s5 _ s7 wr => ∃ n : Nat, s7 = .int .i64 n ∧ n ≤ 6 ∧ Hid (wr.ownsRow w.heap.size 3 1 s5 ((ps6.take n).filter f).length (ints ((ps6.take n).filter f))) ∧ Hid (Below w.heap.size w wr)) (fun _ _ s7 _ => 6 - (intOf s7).toNat)
  case atStart => exact ⟨0, rfl, Nat.zero_le _, World.ownsRow_nil _ _ _ _, Below.refl _ _⟩
  case round =>
    obtain ⟨n, rfl, hn, HO, HB⟩ := hrel
    have hsz : w.heap.size ≤ wr.heap.size := HB.out.size
    by_cases hlt : n < 6
    · have hlt' : (n : Int) < 6 := by omega
      have HS := Hid.mk (users_snoc (f := f) hlt)
      have hln : ((ps6.take n).filter f).length ≤ n := Nat.le_trans (List.length_filter_le _ _) (by simp; omega)
      have HCC := Hid.mk (HC.out wr HB.out n)
      cases hbt : f n
      · have HT := Hid.mk hbt
        rw [hbt] at HCC
        clear hbt
        go_wp2_with (go_at_call 129; refine HCC.out.mono ?_; rintro e w1 ⟨rfl, hw⟩; have hw2 := hw.symm; clear hw; subst hw2)
        go_roundw
        case rel =>
          refine ⟨n + 1, by go_num, by omega, ?_, HB.out⟩
          rw [HS.out, HT.out]
          simp only [Bool.false_eq_true, if_false, List.append_nil]
          exact HO.out
        case measure => simp [intOf]; omega
      · have HT := Hid.mk hbt
        rw [hbt] at HCC
        clear hbt
        go_wp2_with (first
          | (go_at_call 129; refine HCC.out.mono ?_; rintro e w1 ⟨rfl, hw⟩; have hw2 := hw.symm; clear hw; subst hw2)
          | (at_builtin; refine wpList_snoc rfl _ _ _ rfl Tryz.underlying25 Tryz.infoInt rfl (by decide) (by decide) rfl HO.out (by omega) (by omega) (cs := #[.int .i64 (n : Int)]) rfl (by simp) rfl (by simp [Value.oneCell']) ?_; intro v2 w2 ho2 hb3 hz3 hold3; have HO2 := Hid.mk ho2; have HB3 := Hid.mk hb3; clear ho2 hb3 hold3))
        go_roundw
        case rel =>
          refine ⟨n + 1, by go_num, by omega, ?_, HB.out.trans HB3.out⟩
          rw [HS.out, HT.out]
          simp only [if_true, List.length_append, ints_snoc]
          exact HO2.out
        case measure => simp [intOf]; omega
    · obtain rfl : n = 6 := by omega
      have HO4 := Hid.mk (show wr.ownsRow w.heap.size 3 1 _ (ps6.filter f).length (ints (ps6.filter f)) from HO.out)
      go_wp2
      go_ret
      exact ⟨_, rfl, HO4.out, HB.out⟩

set_option maxHeartbeats 1000000 in
set_option maxRecDepth 100000 in
theorem InUse_any {w : World} {tb mb : Nat} {L : Nat → Bool} {G : Int → Int → Option Nat} (h : Tab w tb mb L) (hm : MapAt w mb G) (b : Nat) (hb : Opn w b) (hG : ∀ q d x, G q d = some x → Opn w x) :
    Calls Tryz.prog 128 #[.pointer (some ⟨tb, 0, none⟩), .pointer (some ⟨b, 0, none⟩)] w fun e w' => e = .returned (.bool (ps6.any (hasG G b))) ∧ Below w.heap.size w w' := by
  have HC := Hid.mk (Users_any h hm b hb hG)
  have HE : Hid (ps6.any (hasG G b) = decide (0 < (usersG G b).length)) := by
    show _ = _
    rw [Bool.eq_iff_iff]
    simp only [List.any_eq_true, decide_eq_true_eq, usersG, List.length_pos_iff_exists_mem, List.mem_filter]
  clear h hm hb hG
  rw [HE.out]
  generalize usersG G b = l at *
  go_enter Tryz.func128, Tryz.ntmps128
  go_wp2_with (go_at_call 86; refine HC.out.mono ?_; rintro e w1 ⟨v1, rfl, ho1, hb1⟩; obtain ⟨a1, c1, rfl⟩ := own_form ho1; have HB1 := Hid.mk hb1; clear ho1 hb1)
  go_ret
  exact ⟨rfl, HB1.out⟩

def clearK (G : Int → Int → Option Nat) (p : Int) (k : Nat) : Int → Int → Option Nat := fun q e => if q = p ∧ 0 ≤ e ∧ e < k then none else G q e

set_option maxHeartbeats 4000000 in
set_option maxRecDepth 100000 in
theorem procsKill_ok {w : World} {tb mb : Nat} {L : Nat → Bool} {G : Int → Int → Option Nat} (h : Tab w tb mb L) (hm : MapAt w mb G) (p : Int) (hl : liveB L p = true) :
    Calls Tryz.prog 88 #[.pointer (some ⟨tb, 0, none⟩), .int .i64 p] w fun e w' => e = .returned (.int .i64 0) ∧ Tab w' tb mb (updL L p.toNat false) ∧ MapAt w' mb (clearK G p 5) ∧ Kp [tb, mb] w w' := by
  have hne : mb ≠ tb := fun e => by
    obtain ⟨es, ck, M, hb, _⟩ := hm
    unfold Tab at h
    rw [e, h] at hb
    cases hb
  have hp : 0 ≤ p ∧ p < 6 := by simp [liveB] at hl; omega
  obtain ⟨hp0, hp6⟩ := hp
  have H := Hid.mk h
  have HM := Hid.mk hm
  have hfz := h.frozen p.toNat
  have hcc := h.cell p.toNat (by omega)
  have htl := h.lt
  have hml := hm.lt
  have HP := Hid.mk (show p.toNat < 6 by omega)
  clear h hm
  go_enter Tryz.func88, Tryz.ntmps88
  go_wp2_with (go_at_call 78; refine (check_live H.out p hl).mono ?_; rintro e w' ⟨rfl, hw⟩; have hw2 := hw.symm; clear hw; subst hw2)
  go_loopw [6, 18] (fun _ s wr => ∃ k : Nat, s = .int .i64 k ∧ k ≤ 5 ∧ Hid (Tab wr tb mb (updL L p.toNat false)) ∧ Hid (MapAt wr mb (clearK G p k)) ∧ Hid (Kp [tb, mb] w wr)) (fun _ s _ => 5 - (intOf s).toNat)
  case atStart => exact ⟨0, rfl, Nat.zero_le _, H.out.set p.toNat HP.out false, (HM.out.of_block (Below.heap_setCell _ _ _ _ hne)).congr (fun q e => by unfold clearK; rw [if_neg (by omega)]), Kp.setCell (by simp)⟩
  case round =>
    obtain ⟨k, rfl, hk, HT, HMk, HK⟩ := hrel
    have hmc : wr.cell? ⟨tb, 6, none⟩ = some (.map (some mb)) := HT.out.mapCell
    by_cases hlt : k < 5
    · have hlt' : (k : Int) < 5 := by omega
      obtain ⟨o', hu1, hu2⟩ := HMk.out.delete p k
      have hdel := fun ty => hu1 wr ty rfl
      have HU := Hid.mk hu2
      clear hu1 hu2
      go_wp2
      go_roundw
      case rel =>
        have hmw := HMk.out.lt
        refine ⟨k + 1, by go_num, by omega, HT.out.of_block (setBlock_other hne.symm), (HU.out _ (setBlock_same hmw)).congr (fun q e => ?_), HK.out.trans (Kp.gb gb_setBlock (by simp))⟩
        unfold updF clearK
        by_cases hq : q = p ∧ e = k
        · rw [if_pos hq, if_pos (by omega)]
        · rw [if_neg hq]
          by_cases hq2 : q = p ∧ 0 ≤ e ∧ e < k
          · rw [if_pos hq2, if_pos (by omega)]
          · rw [if_neg hq2, if_neg (by omega)]
      case measure => simp [intOf]; omega
    · obtain rfl : k = 5 := by omega
      go_wp2
      go_ret
      exact ⟨rfl, HT.out, HMk.out, HK.out⟩
set_option maxHeartbeats 1000000 in
set_option maxRecDepth 100000 in
theorem procsKill_dead {w : World} {tb mb : Nat} {L : Nat → Bool} (h : Tab w tb mb L) (p : Int) (hl : liveB L p = false) :
    Calls Tryz.prog 88 #[.pointer (some ⟨tb, 0, none⟩), .int .i64 p] w fun e w' => e = .returned (.int .i64 1) ∧ w' = w := by
  have H := Hid.mk h
  clear h
  go_enter Tryz.func88, Tryz.ntmps88
  go_wp2_with (go_at_call 78; refine (check_dead H.out p hl).mono ?_; rintro e w' ⟨rfl, rfl⟩)
  go_ret
  exact ⟨rfl, rfl⟩

/-- How a look-up of a descriptor ends. -/
def findE (L : Nat → Bool) (G : Int → Int → Option Nat) (p d : Int) : Int := if liveB L p = false then 1 else if G p d = none then 5 else 0
theorem Find_err {w : World} {tb mb : Nat} {L : Nat → Bool} {G : Int → Int → Option Nat} (h : Tab w tb mb L) (hm : MapAt w mb G) (p d : Int) (he : findE L G p d ≠ 0) :
    Calls Tryz.prog 80 #[.pointer (some ⟨tb, 0, none⟩), .int .i64 p, .int .i64 d] w fun e w' => e = .returned (.tuple #[.pointer none, .int .i64 (findE L G p d)]) ∧ w' = w := by
  unfold findE at *
  cases hl : liveB L p
  · simp only [if_true]; exact find_dead h p d hl
  · rw [hl] at he
    simp only [Bool.true_eq_false, if_false] at he ⊢
    cases hg : G p d with
    | none =>
      have := find_live h hm p d hl
      rw [hg] at this
      simpa [ptrV] using this
    | some b => rw [hg] at he; simp at he
theorem Find_ok {w : World} {tb mb b : Nat} {L : Nat → Bool} {G : Int → Int → Option Nat} (h : Tab w tb mb L) (hm : MapAt w mb G) (p d : Int) (hl : liveB L p = true) (hg : G p d = some b) :
    Calls Tryz.prog 80 #[.pointer (some ⟨tb, 0, none⟩), .int .i64 p, .int .i64 d] w fun e w' => e = .returned (.tuple #[.pointer (some ⟨b, 0, none⟩), .int .i64 0]) ∧ w' = w := by
  have := find_live h hm p d hl
  rw [hg] at this
  simpa [ptrV] using this

set_option maxHeartbeats 1000000 in
set_option maxRecDepth 100000 in
theorem procsClose_err {w : World} {tb mb : Nat} {L : Nat → Bool} {G : Int → Int → Option Nat} (h : Tab w tb mb L) (hm : MapAt w mb G) (p d : Int) (he : findE L G p d ≠ 0) :
    Calls Tryz.prog 83 #[.pointer (some ⟨tb, 0, none⟩), .int .i64 p, .int .i64 d] w fun e w' => e = .returned (.tuple #[.pointer none, .int .i64 (findE L G p d)]) ∧ w' = w := by
  have HF := Hid.mk (Find_err h hm p d he)
  generalize findE L G p d = E at *
  clear h hm
  go_enter Tryz.func83, Tryz.ntmps83
  go_wp2_with (go_at_call 80; refine HF.out.mono ?_; rintro e w' ⟨rfl, hw⟩; have hw2 := hw.symm; clear hw; subst hw2)
  go_ret2
  exact ⟨rfl, rfl⟩
set_option maxHeartbeats 1000000 in
set_option maxRecDepth 100000 in
theorem procsClose_ok {w : World} {tb mb b : Nat} {L : Nat → Bool} {G : Int → Int → Option Nat} (h : Tab w tb mb L) (hm : MapAt w mb G) (p d : Int) (hl : liveB L p = true) (hg : G p d = some b) :
    Calls Tryz.prog 83 #[.pointer (some ⟨tb, 0, none⟩), .int .i64 p, .int .i64 d] w fun e w' => e = .returned (.tuple #[.pointer (some ⟨b, 0, none⟩), .int .i64 0]) ∧ MapAt w' mb (updF G p d none) ∧ Kp [mb] w w' := by
  have HF := Hid.mk (Find_ok h hm p d hl hg)
  have hmc := h.mapCell
  obtain ⟨o', hu1, hu2⟩ := hm.delete p d
  have hdel := fun ty => hu1 w ty rfl
  have HU := Hid.mk hu2
  have hml := hm.lt
  clear h hm hu1 hu2 hl hg
  go_enter Tryz.func83, Tryz.ntmps83
  go_wp2_with (go_at_call 80; refine HF.out.mono ?_; rintro e w' ⟨rfl, hw⟩; have hw2 := hw.symm; clear hw; subst hw2)
  go_ret2
  exact ⟨rfl, HU.out _ (setBlock_same hml), Kp.gb gb_setBlock (by simp)⟩

set_option maxHeartbeats 1000000 in
set_option maxRecDepth 100000 in
theorem procsDup_err {w : World} {tb mb : Nat} {L : Nat → Bool} {G : Int → Int → Option Nat} (h : Tab w tb mb L) (hm : MapAt w mb G) (p d : Int) (he : findE L G p d ≠ 0) :
    Calls Tryz.prog 51 #[.pointer (some ⟨tb, 0, none⟩), .int .i64 p, .int .i64 d] w fun e w' => e = .returned (.tuple #[.int .i64 0, .int .i64 (findE L G p d)]) ∧ w' = w := by
  have HF := Hid.mk (Find_err h hm p d he)
  generalize findE L G p d = E at *
  have hE : (E != 0) = true := by simpa using he
  clear h hm he
  go_enter Tryz.func51, Tryz.ntmps51
  go_wp2_with (go_at_call 80; refine HF.out.mono ?_; rintro e w' ⟨rfl, hw⟩; have hw2 := hw.symm; clear hw; subst hw2)
  go_ret2
  exact ⟨rfl, rfl⟩
set_option maxHeartbeats 1000000 in
set_option maxRecDepth 100000 in
theorem procsDup_full {w : World} {tb mb b : Nat} {L : Nat → Bool} {G : Int → Int → Option Nat} (h : Tab w tb mb L) (hm : MapAt w mb G) (p d : Int) (hl : liveB L p = true) (hg : G p d = some b) (h1 : ∀ j : Nat, j < 5 → (G p j).isSome = true) :
    Calls Tryz.prog 51 #[.pointer (some ⟨tb, 0, none⟩), .int .i64 p, .int .i64 d] w fun e w' => e = .returned (.tuple #[.int .i64 0, .int .i64 3]) ∧ Below w.heap.size w w' := by
  have HF := Hid.mk (Find_ok h hm p d hl hg)
  have HG := Hid.mk (give_none h hm p b h1)
  clear h hm hl hg h1
  go_enter Tryz.func51, Tryz.ntmps51
  go_wp2_with (first
    | (go_at_call 80; refine HF.out.mono ?_; rintro e w' ⟨rfl, hw⟩; have hw2 := hw.symm; clear hw; subst hw2)
    | (go_at_call 79; refine HG.out.mono ?_; rintro e w' ⟨rfl, hb⟩))
  go_ret2
  exact ⟨rfl, hb⟩
set_option maxHeartbeats 1000000 in
set_option maxRecDepth 100000 in
theorem procsDup_ok {w : World} {tb mb b : Nat} {L : Nat → Bool} {G : Int → Int → Option Nat} (h : Tab w tb mb L) (hm : MapAt w mb G) (p d : Int) (hl : liveB L p = true) (hg : G p d = some b) (c : Nat) (hc : c < 5) (h1 : ∀ j : Nat, j < c → (G p j).isSome = true) (h2 : G p c = none) :
    Calls Tryz.prog 51 #[.pointer (some ⟨tb, 0, none⟩), .int .i64 p, .int .i64 d] w fun e w' => e = .returned (.tuple #[.int .i64 c, .int .i64 0]) ∧ MapAt w' mb (updF G p c (some b)) ∧ Kp [mb] w w' := by
  have HF := Hid.mk (Find_ok h hm p d hl hg)
  have HG := Hid.mk (give_some h hm p b c hc h1 h2)
  clear h hm hl hg h1 h2
  go_enter Tryz.func51, Tryz.ntmps51
  go_wp2_with (first
    | (go_at_call 80; refine HF.out.mono ?_; rintro e w' ⟨rfl, hw⟩; have hw2 := hw.symm; clear hw; subst hw2)
    | (go_at_call 79; refine HG.out.mono ?_; rintro e w' ⟨rfl, hma, hgb⟩))
  go_ret2
  exact ⟨rfl, hma, Kp.gb hgb (by simp)⟩
end Go.Proofs.YtaicdjhblbobbaaGreat

/- Contracts of package queue: what is waited with. -/
namespace Go.Proofs.YtaicdjhblbobbaaGreat
open Go.RowKit Go.Lib

def qcells (a : Ask) : List Value := [.int .i64 a.p, .int .i64 a.file, .int .i64 a.rn.p, .int .i64 a.rn.k, .int .i64 a.rn.f, .int .i64 a.rn.t, ptrV a.ow, .int .i64 a.wk]
def askV (a : Ask) : Value := .agg #[.int .i64 a.p, .int .i64 a.file, .int .i64 a.rn.p, .int .i64 a.rn.k, .int .i64 a.rn.f, .int .i64 a.rn.t, ptrV a.ow, .int .i64 a.wk]
def flatQ (l : List Ask) : List Value := l.flatMap qcells
theorem qcells_len (x : Ask) : (qcells x).length = 8 := rfl
theorem flatQ_cell {l : List Ask} {i : Nat} {x : Ask} (h : l[i]? = some x) : (flatQ l)[i * 8]? = some (.int .i64 x.p) ∧ (flatQ l)[i * 8 + 1]? = some (.int .i64 x.file) ∧ (flatQ l)[i * 8 + 2]? = some (.int .i64 x.rn.p) ∧ (flatQ l)[i * 8 + 3]? = some (.int .i64 x.rn.k) ∧ (flatQ l)[i * 8 + 4]? = some (.int .i64 x.rn.f) ∧ (flatQ l)[i * 8 + 5]? = some (.int .i64 x.rn.t) ∧ (flatQ l)[i * 8 + 6]? = some (ptrV x.ow) ∧ (flatQ l)[i * 8 + 7]? = some (.int .i64 x.wk) :=
  ⟨flat_get qcells 8 qcells_len l i 0 x h (by omega), flat_get qcells 8 qcells_len l i 1 x h (by omega), flat_get qcells 8 qcells_len l i 2 x h (by omega), flat_get qcells 8 qcells_len l i 3 x h (by omega), flat_get qcells 8 qcells_len l i 4 x h (by omega), flat_get qcells 8 qcells_len l i 5 x h (by omega), flat_get qcells 8 qcells_len l i 6 x h (by omega), flat_get qcells 8 qcells_len l i 7 x h (by omega)⟩
theorem Tryz.infoAsk : (Tryz.prog.info? 137).map (fun i => (i.zero, i.size, i.bytes)) = some (some (.agg #[.int .i64 0, .int .i64 0, .int .i64 0, .int .i64 0, .int .i64 0, .int .i64 0, .pointer none, .int .i64 0]), 8, 64) := by kernel_rfl

set_option maxHeartbeats 4000000 in
set_option maxRecDepth 100000 in
theorem qbites_any (b a : Ask) (w : World) (hb : ∀ x, b.ow = some x → Opn w x) (ha : ∀ x, a.ow = some x → Opn w x) :
    Calls Tryz.prog 174 #[askV b, askV a] w fun e w' => e = .returned (.bool (bitesQ b a)) ∧ Below w.heap.size w w' := by
  have HR := Hid.mk (fun W => bites_any b.rn.p b.rn.k b.rn.f b.rn.t a.rn.p a.rn.k a.rn.f a.rn.t W)
  have HW := Hid.mk (fun (W : World) (h : Below w.heap.size w W) => wBites_any b.ow b.wk a.ow a.wk W (fun x e => (hb x e).below h) (fun x e => (ha x e).below h))
  have HQ := Hid.mk (show bitesQ b a = (decide (b.file = a.file) && (bitesB b.rn.p b.rn.k b.rn.f b.rn.t a.rn.p a.rn.k a.rn.f a.rn.t || bitesW b.ow b.wk a.ow a.wk)) from rfl)
  rw [HQ.out]
  clear hb ha HQ
  unfold askV ptrV at *
  generalize bitesB b.rn.p b.rn.k b.rn.f b.rn.t a.rn.p a.rn.k a.rn.f a.rn.t = X at *
  generalize bitesW b.ow b.wk a.ow a.wk = Y at *
  generalize b.ow.map (fun b => (⟨b, 0, none⟩ : Addr)) = A at *
  generalize a.ow.map (fun b => (⟨b, 0, none⟩ : Addr)) = A' at *
  generalize a.p = ap at *
  generalize b.p = bp at *
  generalize a.rn.p = a1 at *
  generalize a.rn.k = a2 at *
  generalize a.rn.f = a3 at *
  generalize a.rn.t = a4 at *
  generalize a.wk = a5 at *
  generalize b.rn.p = b1 at *
  generalize b.rn.k = b2 at *
  generalize b.rn.f = b3 at *
  generalize b.rn.t = b4 at *
  generalize b.wk = b5 at *
  generalize b.file = bf at *
  generalize a.file = af at *
  have hbw : Below w.heap.size w ((w.alloc (.cells #[.int .i64 bp, .int .i64 bf, .int .i64 b1, .int .i64 b2, .int .i64 b3, .int .i64 b4, .pointer A, .int .i64 b5] 137)).alloc (.cells #[.int .i64 ap, .int .i64 af, .int .i64 a1, .int .i64 a2, .int .i64 a3, .int .i64 a4, .pointer A', .int .i64 a5] 137)) := ((Below.refl _ _).alloc (Nat.le_refl _) _).alloc (by simp) _
  have HB := Hid.mk hbw
  clear hbw
  by_cases hf : bf = af
  · subst hf
    cases X
    · go_enter Tryz.func174, Tryz.ntmps174
      go_wp2_with (first
        | (go_at_call 122; refine (HR.out _).mono ?_; rintro e w1 ⟨rfl, hb1⟩; have hz1 := hb1.size; simp at hz1; obtain ⟨hc, _⟩ := bcells hb1; have e6 := hc w.heap.size 6 (by simp; omega); have e7 := hc w.heap.size 7 (by simp; omega); have f6 := hc (w.heap.size + 1) 6 (by simp); have f7 := hc (w.heap.size + 1) 7 (by simp); simp at e6 e7 f6 f7; have HB1 := Hid.mk hb1; clear hb1 hc)
        | (go_at_call 173; refine (HW.out _ (HB.out.trans (HB1.out.mono (by simp; omega)))).mono ?_; rintro e w2 ⟨rfl, hb2⟩; have HB2 := Hid.mk hb2; clear hb2))
      go_ret
      exact ⟨ret_bool (by simp), (HB.out.trans (HB1.out.mono (by simp; omega))).trans (HB2.out.mono (by omega))⟩
    · go_enter Tryz.func174, Tryz.ntmps174
      go_wp2_with (go_at_call 122; refine (HR.out _).mono ?_; rintro e w1 ⟨rfl, hb1⟩; have HB1 := Hid.mk hb1; clear hb1)
      go_ret
      exact ⟨ret_bool (by simp), HB.out.trans (HB1.out.mono (by simp; omega))⟩
  · have hfi : ¬ (bf : Int) = (af : Int) := by omega
    go_enter Tryz.func174, Tryz.ntmps174
    go_wp2
    go_ret
    exact ⟨ret_bool (by simp [hf]), HB.out⟩

/-- The cells of an element of what is waited with. -/
structure AskAt (W : World) (g i : Nat) (x : Ask) : Prop where
  c0 : W.cell? ⟨g, i * 8, none⟩ = some (.int .i64 x.p)
  c1 : W.cell? ⟨g, i * 8 + 1, none⟩ = some (.int .i64 x.file)
  c2 : W.cell? ⟨g, i * 8 + 2, none⟩ = some (.int .i64 x.rn.p)
  c3 : W.cell? ⟨g, i * 8 + 3, none⟩ = some (.int .i64 x.rn.k)
  c4 : W.cell? ⟨g, i * 8 + 4, none⟩ = some (.int .i64 x.rn.f)
  c5 : W.cell? ⟨g, i * 8 + 5, none⟩ = some (.int .i64 x.rn.t)
  c6 : W.cell? ⟨g, i * 8 + 6, none⟩ = some (ptrV x.ow)
  c7 : W.cell? ⟨g, i * 8 + 7, none⟩ = some (.int .i64 x.wk)
theorem AskAt.below {w W : World} {B g i : Nat} {x : Ask} (h : AskAt w g i x) (hb : Below B w W) (hg : g < B) : AskAt W g i x :=
  ⟨(hb.cell (p := ⟨g, _, none⟩) hg).trans h.c0, (hb.cell (p := ⟨g, _, none⟩) hg).trans h.c1, (hb.cell (p := ⟨g, _, none⟩) hg).trans h.c2, (hb.cell (p := ⟨g, _, none⟩) hg).trans h.c3, (hb.cell (p := ⟨g, _, none⟩) hg).trans h.c4, (hb.cell (p := ⟨g, _, none⟩) hg).trans h.c5, (hb.cell (p := ⟨g, _, none⟩) hg).trans h.c6, (hb.cell (p := ⟨g, _, none⟩) hg).trans h.c7⟩
theorem askAt {w : World} {base : Nat} {a : Option Addr} {c : Nat} {l : List Ask} {n : Nat} {x : Ask} (hv : w.ownsRow base 137 8 (.slice a l.length c) l.length (flatQ l)) (hx : l[n]? = some x) : ∃ g, a = some ⟨g, 0, none⟩ ∧ base ≤ g ∧ g < w.heap.size ∧ l.length ≤ c ∧ AskAt w g n x := by
  have hlt : n < l.length := (List.getElem?_eq_some_iff.1 hx).1
  obtain ⟨g, h1, h2, hg, hc, hcell⟩ := own_some hv (by omega)
  obtain ⟨f0, f1, f2, f3, f4, f5, f6, f7⟩ := flatQ_cell hx
  exact ⟨g, h1, h2, hg, hc, (hcell _ (by omega)).trans f0, (hcell _ (by omega)).trans f1, (hcell _ (by omega)).trans f2, (hcell _ (by omega)).trans f3, (hcell _ (by omega)).trans f4, (hcell _ (by omega)).trans f5, (hcell _ (by omega)).trans f6, (hcell _ (by omega)).trans f7⟩
theorem procs_snoc {l : List Ask} {n : Nat} {x : Ask} (h : l[n]? = some x) : (l.take (n + 1)).map (·.p) = (l.take n).map (·.p) ++ [x.p] := by
  rw [List.take_add_one, h]; simp

set_option maxHeartbeats 4000000 in
set_option maxRecDepth 100000 in
theorem Procs_any {v : Value} {l : List Ask} {w : World} (hv : w.ownsRow 0 137 8 v l.length (flatQ l)) (hl : l.length < 1000) :
    Calls Tryz.prog 62 #[v] w fun e w' => ∃ v', e = .returned v' ∧ w'.ownsRow w.heap.size 3 1 v' l.length (ints (l.map (·.p))) ∧ Below w.heap.size w w' := by
  obtain ⟨a, c, rfl⟩ := own_form hv
  have HV := Hid.mk hv
  clear hv
  go_enter Tryz.func62, Tryz.ntmps62
  go_wp2
  go_loopw [3, 8] (fun s3 s8 wr => ∃ n : Nat, s8 = .int .i64 n ∧ n ≤ l.length ∧ Hid (wr.ownsRow w.heap.size 3 1 s3 ((l.take n).map (·.p)).length (ints ((l.take n).map (·.p)))) ∧ Hid (Below w.heap.size w wr)) (fun _ s8 _ => l.length - (intOf s8).toNat)
  case atStart => exact ⟨0, rfl, Nat.zero_le _, World.ownsRow_nil _ _ _ _, Below.refl _ _⟩
  case round =>
    obtain ⟨n, rfl, hn, HO, HB⟩ := hrel
    have hsz : w.heap.size ≤ wr.heap.size := HB.out.size
    by_cases hlt : n < l.length
    · obtain ⟨x, hx⟩ : ∃ x, l[n]? = some x := ⟨_, List.getElem?_eq_getElem hlt⟩
      obtain ⟨g, rfl, _, hg, _, hat⟩ := askAt HV.out hx
      obtain ⟨c0, c1, c2, c3, c4, c5, c6, c7⟩ := hat.below HB.out hg
      have hlt' : (n : Int) < (l.length : Int) := by omega
      have HS := Hid.mk (procs_snoc hx)
      have hln : ((l.take n).map (·.p)).length ≤ n := by simp; omega
      have hgw : g < wr.heap.size := by omega
      clear hat hx
      unfold ptrV at *
      generalize x.ow.map (fun b => (⟨b, 0, none⟩ : Addr)) = A at *
      go_wp2_with (at_builtin; refine wpList_snoc (w := wr.alloc (.cells #[.int .i64 x.p, .int .i64 x.file, .int .i64 x.rn.p, .int .i64 x.rn.k, .int .i64 x.rn.f, .int .i64 x.rn.t, .pointer A, .int .i64 x.wk] 137)) rfl _ _ _ rfl Tryz.underlying25 Tryz.infoInt rfl (by decide) (by decide) rfl (own_below HO.out ((Below.refl _ _).alloc (Nat.le_refl _) _)) (by simp; omega) (by omega) (cs := #[.int .i64 x.p]) rfl (by simp) rfl (by simp [Value.oneCell']) ?_; intro v2 w2 ho2 hb3 hz3 hold3; have HO2 := Hid.mk ho2; have HB3 := Hid.mk hb3; clear ho2 hb3 hold3)
      go_roundw
      case rel =>
        refine ⟨n + 1, by go_num, by omega, ?_, ?_⟩
        · rw [HS.out]
          simp only [List.length_append, ints_snoc]
          exact HO2.out
        · exact (HB.out.alloc hsz _).trans HB3.out
      case measure => simp [intOf]; omega
    · obtain rfl : n = l.length := by omega
      have HO3 := HO.out
      rw [List.take_of_length_le (Nat.le_refl _), List.length_map] at HO3
      have HO4 := Hid.mk HO3
      clear HO3
      go_wp2
      go_ret
      exact ⟨_, rfl, HO4.out, HB.out⟩

set_option maxHeartbeats 1000000 in
set_option maxRecDepth 100000 in
theorem Has_any {v : Value} {l : List Ask} (p : Int) {w : World} (hv : w.ownsRow 0 137 8 v l.length (flatQ l)) (hl : l.length < 1000) :
    Calls Tryz.prog 71 #[v, .int .i64 p] w fun e w' => e = .returned (.bool (decide (p ∈ l.map (·.p)))) ∧ Below w.heap.size w w' := by
  have HV := Hid.mk hv
  clear hv
  generalize hD : decide (p ∈ l.map (·.p)) = D
  have HD := Hid.mk hD
  clear hD
  go_enter Tryz.func71, Tryz.ntmps71
  go_wp2_with (first
    | (go_at_call 62; refine (Procs_any HV.out hl).mono ?_; rintro e w1 ⟨v1, rfl, ho1, hb1⟩; have HO1 := Hid.mk ho1; have HB1 := Hid.mk hb1; clear ho1 hb1)
    | (go_at_call 108; refine (Contains_row (l := l.map (·.p)) p (by rw [List.length_map]; exact HO1.out) (by simp; omega)).mono ?_; rintro e w2 ⟨rfl, hw⟩; have hw2 := hw.symm; clear hw; subst hw2; rw [HD.out]))
  go_ret
  exact ⟨rfl, HB1.out⟩
end Go.Proofs.YtaicdjhblbobbaaGreat

/- Contracts of package queue, on: who bites, one more, one less. -/
namespace Go.Proofs.YtaicdjhblbobbaaGreat
open Go.RowKit Go.Lib

def qbP (l : List Ask) (a : Ask) : List Int := (l.filter fun b => bitesQ b a).map (·.p)
theorem qbP_snoc {l : List Ask} {a : Ask} {n : Nat} {x : Ask} (h : l[n]? = some x) : qbP (l.take (n + 1)) a = qbP (l.take n) a ++ (if bitesQ x a = true then [x.p] else []) := by
  unfold qbP
  rw [List.take_add_one, h, List.filter_append, List.map_append]
  congr 1
  cases hb : bitesQ x a <;> simp [hb]
theorem qbP_len (l : List Ask) (a : Ask) : (qbP l a).length ≤ l.length := by
  unfold qbP; rw [List.length_map]; exact List.length_filter_le _ _
def Ask.boxed (a : Ask) : Obj := .cells #[.int .i64 a.p, .int .i64 a.file, .int .i64 a.rn.p, .int .i64 a.rn.k, .int .i64 a.rn.f, .int .i64 a.rn.t, ptrV a.ow, .int .i64 a.wk] 137
/-- The box of an argument. -/
theorem boxed_at {w W : World} {B : Nat} {a : Ask} (h : Below B (w.alloc a.boxed) W) (hB : w.heap.size < B) : W.cell? ⟨w.heap.size, 0, none⟩ = some (.int .i64 a.p) ∧ W.cell? ⟨w.heap.size, 1, none⟩ = some (.int .i64 a.file) ∧ W.cell? ⟨w.heap.size, 2, none⟩ = some (.int .i64 a.rn.p) ∧ W.cell? ⟨w.heap.size, 3, none⟩ = some (.int .i64 a.rn.k) ∧ W.cell? ⟨w.heap.size, 4, none⟩ = some (.int .i64 a.rn.f) ∧ W.cell? ⟨w.heap.size, 5, none⟩ = some (.int .i64 a.rn.t) ∧ W.cell? ⟨w.heap.size, 6, none⟩ = some (ptrV a.ow) ∧ W.cell? ⟨w.heap.size, 7, none⟩ = some (.int .i64 a.wk) := by
  have e := heap_alloc_new w a.boxed
  refine ⟨?_, ?_, ?_, ?_, ?_, ?_, ?_, ?_⟩ <;> (rw [h.cell (p := ⟨w.heap.size, _, none⟩) hB]; simp only [World.cell?, e]; rfl)

set_option maxHeartbeats 4000000 in
set_option maxRecDepth 100000 in
theorem qBiters_any {v : Value} {l : List Ask} (b : Ask) {w : World} (hv : w.ownsRow 0 137 8 v l.length (flatQ l)) (hl : l.length < 1000) (hO : ∀ x, x ∈ l → ∀ y, x.ow = some y → Opn w y) (hb : ∀ y, b.ow = some y → Opn w y) :
    Calls Tryz.prog 147 #[v, askV b] w fun e w' => ∃ v', e = .returned v' ∧ w'.ownsRow w.heap.size 3 1 v' (qbP l b).length (ints (qbP l b)) ∧ Below w.heap.size w w' := by
  obtain ⟨a, c, rfl⟩ := own_form hv
  have HV := Hid.mk hv
  have HOp := Hid.mk hO
  have HoP := Hid.mk hb
  clear hv hO hb
  have HAV := Hid.mk (show askV b = .agg #[.int .i64 b.p, .int .i64 b.file, .int .i64 b.rn.p, .int .i64 b.rn.k, .int .i64 b.rn.f, .int .i64 b.rn.t, ptrV b.ow, .int .i64 b.wk] from rfl)
  rw [HAV.out]
  go_enter Tryz.func147, Tryz.ntmps147
  go_wp2
  go_loopw [5, 10] (fun s5 s10 wr => ∃ n : Nat, s10 = .int .i64 n ∧ n ≤ l.length ∧ Hid (wr.ownsRow (w.heap.size + 1) 3 1 s5 (qbP (l.take n) b).length (ints (qbP (l.take n) b))) ∧ Hid (Below (w.heap.size + 1) (w.alloc b.boxed) wr)) (fun _ s10 _ => l.length - (intOf s10).toNat)
  case atStart => exact ⟨0, rfl, Nat.zero_le _, World.ownsRow_nil _ _ _ _, Below.refl _ _⟩
  case round =>
    obtain ⟨n, rfl, hn, HO, HB⟩ := hrel
    have hsz : w.heap.size + 1 ≤ wr.heap.size := by have := HB.out.size; simpa using this
    by_cases hlt : n < l.length
    · obtain ⟨x, hx⟩ : ∃ x, l[n]? = some x := ⟨_, List.getElem?_eq_getElem hlt⟩
      obtain ⟨g, rfl, _, hg, _, hat⟩ := askAt HV.out hx
      have hlt' : (n : Int) < (l.length : Int) := by omega
      have hb1 : Below w.heap.size w wr := ((Below.refl w.heap.size w).alloc (Nat.le_refl _) _).trans (HB.out.mono (Nat.le_succ _))
      obtain ⟨c0, c1, c2, c3, c4, c5, c6, c7⟩ := hat.below hb1 hg
      obtain ⟨d0, d1, d2, d3, d4, d5, d6, d7⟩ := boxed_at HB.out (Nat.lt_succ_self _)
      have HS := Hid.mk (qbP_snoc (a := b) hx)
      have hln := qbP_len (l.take n) b
      simp only [List.length_take] at hln
      have hgw : g < wr.heap.size := by omega
      have hww : w.heap.size < wr.heap.size := by omega
      have hb2 := (Below.refl wr.heap.size wr).alloc (Nat.le_refl _) x.boxed
      have HC := Hid.mk (qbites_any x b (wr.alloc x.boxed) (fun y e => ((HOp.out x (List.mem_of_getElem? hx) y e).below hb1).below hb2) (fun y e => ((HoP.out y e).below hb1).below hb2))
      unfold askV at HC
      unfold Ask.boxed at HC
      clear hat hx hb1 hb2
      unfold ptrV at *
      generalize x.ow.map (fun b => (⟨b, 0, none⟩ : Addr)) = A at *
      cases hbt : bitesQ x b
      · have HT := Hid.mk hbt
        rw [hbt] at HC
        clear hbt
        go_wp2_with (go_at_call 174; refine HC.out.mono ?_; rintro e w1 ⟨rfl, hb2⟩; have HB2 := Hid.mk hb2; clear hb2)
        go_roundw
        case rel =>
          have hz2 := HB2.out.size
          simp at hz2
          have hbw : Below wr.heap.size wr w1 := ((Below.refl _ _).alloc (Nat.le_refl _) _).trans (HB2.out.mono (by simp))
          refine ⟨n + 1, by go_num, by omega, ?_, HB.out.trans (hbw.mono (by omega))⟩
          rw [HS.out, HT.out]
          simp only [Bool.false_eq_true, if_false, List.append_nil]
          exact own_below HO.out hbw
        case measure => simp [intOf]; omega
      · have HT := Hid.mk hbt
        rw [hbt] at HC
        clear hbt
        go_wp2_with (first
          | (go_at_call 174; refine HC.out.mono ?_; rintro e w1 ⟨rfl, hb2⟩; have hz2 := hb2.size; simp at hz2; have e0 : w1.cell? ⟨wr.heap.size, 0, none⟩ = some (.int .i64 x.p) := ((bcells hb2).1 _ _ (by simp)).trans (by simp); have HB2 := Hid.mk hb2; clear hb2)
          | (at_builtin; refine wpList_snoc rfl _ _ _ rfl Tryz.underlying25 Tryz.infoInt rfl (by decide) (by decide) rfl (own_below HO.out (((Below.refl _ _).alloc (Nat.le_refl _) _).trans (HB2.out.mono (by simp)))) (by omega) (by omega) (cs := #[.int .i64 x.p]) rfl (by simp) rfl (by simp [Value.oneCell']) ?_; intro v2 w2 ho2 hb3 hz3 hold3; have HO2 := Hid.mk ho2; have HB3 := Hid.mk hb3; clear ho2 hb3 hold3))
        go_roundw
        case rel =>
          have hbw : Below wr.heap.size wr w1 := ((Below.refl _ _).alloc (Nat.le_refl _) _).trans (HB2.out.mono (by simp))
          refine ⟨n + 1, by go_num, by omega, ?_, ?_⟩
          · rw [HS.out, HT.out]
            simp only [if_true, List.length_append, ints_snoc]
            exact HO2.out
          · exact (HB.out.trans (hbw.mono hsz)).trans HB3.out
        case measure => simp [intOf]; omega
    · obtain rfl : n = l.length := by omega
      have HO3 := HO.out
      rw [List.take_of_length_le (Nat.le_refl _)] at HO3
      have HO4 := Hid.mk HO3
      clear HO3
      go_wp2
      go_ret
      exact ⟨_, rfl, own_mono HO4.out (Nat.le_succ _), ((Below.refl w.heap.size w).alloc (Nat.le_refl _) _).trans (HB.out.mono (Nat.le_succ _))⟩

set_option maxHeartbeats 1000000 in
set_option maxRecDepth 100000 in
theorem OfWhole_any (a : Ask) (w : World) :
    Calls Tryz.prog 148 #[askV a] w fun e w' => e = .returned (.bool a.whole) ∧ Below w.heap.size w w' := by
  cases ha : a.whole
  · have e1 : a.ow = none := by simp [Ask.ow, ha]
    unfold askV
    rw [e1]
    simp only [ptrV, Option.map_none]
    go_enter Tryz.func148, Tryz.ntmps148
    go_wp2
    go_ret
    exact ⟨rfl, (Below.refl _ _).alloc (Nat.le_refl _) _⟩
  · have e1 : a.ow = some a.o := by simp [Ask.ow, ha]
    unfold askV
    rw [e1]
    simp only [ptrV, Option.map_some]
    go_enter Tryz.func148, Tryz.ntmps148
    go_wp2
    go_ret
    exact ⟨rfl, (Below.refl _ _).alloc (Nat.le_refl _) _⟩
end Go.Proofs.YtaicdjhblbobbaaGreat

/- Contracts of package queue, on: a copy, one more, and without one. -/
namespace Go.Proofs.YtaicdjhblbobbaaGreat
open Go.RowKit Go.Lib

theorem qcells_one (x : Ask) : ∀ u ∈ qcells x, u.oneCell' = true := by
  intro u hu
  simp only [qcells, List.mem_cons, List.not_mem_nil, or_false] at hu
  rcases hu with rfl | rfl | rfl | rfl | rfl | rfl | rfl | rfl <;> rfl
theorem flatQ_one (l : List Ask) : ∀ u ∈ flatQ l, u.oneCell' = true := fun u hu => by
  obtain ⟨x, _, h⟩ := List.mem_flatMap.1 hu
  exact qcells_one x u h
theorem flatQ_len (l : List Ask) : (flatQ l).length = l.length * 8 := flat_len qcells 8 qcells_len l
theorem own_empty (w : World) (e : TypeId) (sz : Nat) : (w.alloc (.cells #[] e)).ownsRow w.heap.size e sz (.slice (some ⟨w.heap.size, 0, none⟩) 0 0) 0 [] :=
  ⟨by simp, Or.inr ⟨w.heap.size, 0, #[], rfl, Nat.le_refl _, heap_alloc_new w _, Nat.le_refl _, by unfold maxLen; omega, by simp, by simp⟩⟩

set_option maxHeartbeats 1000000 in
set_option maxRecDepth 100000 in
theorem Clone_any {v : Value} {l : List Ask} {base : Nat} {w : World} (hv : w.ownsRow base 137 8 v l.length (flatQ l)) (hl : l.length < 1000) :
    Calls Tryz.prog 132 #[v] w fun e w' => ∃ v', e = .returned v' ∧ w'.ownsRow w.heap.size 137 8 v' l.length (flatQ l) ∧ Below w.heap.size w w' := by
  rcases hv.2 with ⟨rfl, h0⟩ | ⟨g, cap, cur, rfl, hb, hg, hnc, hcm, hcs, htk⟩
  · obtain rfl : l = [] := List.eq_nil_of_length_eq_zero h0
    clear hv
    have hq := run_eql_slice_nil (P := Tryz.prog) w 98 137 none 0 0 0 0 Tryz.underlying98
    go_enter Tryz.func132, Tryz.ntmps132
    go_wp2
    go_ret
    exact ⟨_, rfl, World.ownsRow_nil _ _ _ _, Below.refl _ _⟩
  · obtain ⟨i0, hi0, hz0, hz1, hz2⟩ := info_get Tryz.infoAsk
    have hgl : g < w.heap.size := (Array.getElem?_eq_some_iff.1 hg).1
    have hcells : ∀ j u, (flatQ l)[j]? = some u → (w.alloc (.cells #[] 137)).cell? ((⟨g, 0, none⟩ : Addr).add j) = some u := fun j u hj => by
      have e1 : (⟨g, 0, none⟩ : Addr).add j = ⟨g, j, none⟩ := by unfold Addr.add; split <;> simp_all
      have hjl : j < l.length * 8 := by rw [← flatQ_len]; exact (List.getElem?_eq_some_iff.1 hj).1
      rw [e1, ((Below.refl w.heap.size w).alloc (Nat.le_refl _) _).cell (p := ⟨g, j, none⟩) hgl, hv.cellAt j hjl]
      exact hj
    have HC := Hid.mk hcells
    have hq := run_eql_slice_nil (P := Tryz.prog) w 98 137 (some ⟨g, 0, none⟩) l.length cap 0 0 Tryz.underlying98
    clear hcells hcs htk hg hv
    go_enter Tryz.func132, Tryz.ntmps132
    go_wp2_with (at_builtin; refine wpList_append_own _ rfl _ _ 98 rfl w.heap.size 137 i0 _ 8 64 Tryz.underlying98 hi0 hz0 hz1 hz2 rfl (by decide) _ 0 [] rfl (own_empty w 137 8) ⟨g, 0, none⟩ l.length cap (flatQ l) rfl (flatQ_len l) HC.out (flatQ_one l) (by unfold maxLen; omega) (by omega) (by simp) ?_; intro v2 w2 ho2 hg2 hn2; have HO2 := Hid.mk ho2; have HG2 := Hid.mk hg2; clear ho2 hg2 hn2)
    go_ret
    refine ⟨_, rfl, ?_, ?_⟩
    · have := HO2.out
      rw [Nat.zero_add, List.nil_append] at this
      exact this
    · exact ((Below.refl w.heap.size w).alloc (Nat.le_refl _) _).grown HG2.out (by simp) (fun k hk => by cases hk; exact Nat.le_refl _)

/-- append of one element that lies in a block of its own, as a run. -/
theorem snoc_run {t ty e : TypeId} {z : Value} {sz by' : Nat} (hu : Tryz.prog.underlying t = some (.slice e)) (hinf : (Tryz.prog.info? e).map (fun i => (i.zero, i.size, i.bytes)) = some (some z, sz, by')) (hzs : z.cells.size = sz) (h0 : 0 < sz) (hby : by' ≤ 1000)
    {base : Nat} {w : World} {v : Value} {n : Nat} {xs : List Value} (hown : w.ownsRow base e sz v n xs) (hb : base ≤ w.heap.size) (hn : n ≤ 100000) {cs : Array Value} {bb : Nat} (hlit : w.heap[bb]? = some (.cells cs e (0, 0))) (hcs : cs.size = sz) (h1 : ∀ u ∈ cs.toList, u.oneCell' = true) :
    ∃ v' w', (Builtin.append_ #[t, t] ty #[v, .slice (some ⟨bb, 0, none⟩) 1 1]).run Tryz.prog w = .ok v' w' ∧ w'.ownsRow base e sz v' (n + 1) (xs ++ cs.toList) ∧ Below base w w' ∧ ∀ b, b < w.heap.size → v.ownBlock ≠ some b → w'.heap[b]? = w.heap[b]? := by
  obtain ⟨i0, hi0, hz0, hz1, hz2⟩ := info_get hinf
  have hcell : ∀ j u, cs.toList[j]? = some u → w.cell? ((⟨bb, 0, none⟩ : Addr).add j) = some u := fun j u hj => by
    have e1 : (⟨bb, 0, none⟩ : Addr).add j = ⟨bb, j, none⟩ := by unfold Addr.add; split <;> simp_all
    rw [e1]
    simp only [World.cell?, hlit]
    simpa using hj
  have hby2 : (n + 1) * by' ≤ 140737488355328 := by
    have : (n + 1) * by' ≤ 100001 * 1000 := Nat.mul_le_mul (by omega) hby
    omega
  obtain ⟨v', w', hr, h2, hgr, _⟩ := run_append_own (P := Tryz.prog) w base t ty e i0 z sz by' hu hi0 hz0 hz1 hz2 hzs h0 v n xs hown ⟨bb, 0, none⟩ 1 1 cs.toList (by simp [hcs]) hcell h1 (by unfold maxLen; omega) hby2 hb
  refine ⟨v', w', hr, h2, (Below.refl base w).grown hgr hb (fun k hk => (hown.lt k hk).1), fun b hb' hne => ?_⟩
  exact hgr.block b hb' (fun e' => hne e'.symm)
/-- The same at a step of a region that draws its order. -/
theorem step_snoc {ops : Array Oper} {o : Oper} {a : Act} {K : Act → World → Prop} {Q : Exit → Act → World → Prop} {E : Prop} (hgd : o.guard = none) (s x : Operand) (t : TypeId)
    (ho : o.op = .call { callee := .builtin .append, args := #[s, x], argTypes := #[t, t] }) {e : TypeId} {z : Value} {sz by' : Nat} (hu : Tryz.prog.underlying t = some (.slice e))
    (hinf : (Tryz.prog.info? e).map (fun i => (i.zero, i.size, i.bytes)) = some (some z, sz, by')) (hzs : z.cells.size = sz) (h0 : 0 < sz) (hby : by' ≤ 1000)
    {base : Nat} {w : World} {v : Value} {n : Nat} {xs : List Value} (hs : a.eval s = v) (hown : w.ownsRow base e sz v n xs) (hb : base ≤ w.heap.size) (hn : n ≤ 100000)
    {cs : Array Value} {bb : Nat} (hx : a.eval x = .slice (some ⟨bb, 0, none⟩) 1 1) (hlit : w.heap[bb]? = some (.cells cs e (0, 0))) (hcs : cs.size = sz) (h1 : ∀ u ∈ cs.toList, u.oneCell' = true)
    (h : ∀ v' w', w'.ownsRow base e sz v' (n + 1) (xs ++ cs.toList) → Below base w w' → w.heap.size ≤ w'.heap.size → (∀ b, b < w.heap.size → v.ownBlock ≠ some b → w'.heap[b]? = w.heap[b]?) → K (a.put o.dst v') w') :
    if Region.wanted o (yielded ops a.tmps) = true then Oper.wp Tryz.prog o a w K Q else E := by
  have hw : Region.wanted o (yielded ops a.tmps) = true := by simp [Region.wanted, hgd]
  rw [if_pos hw]
  obtain ⟨v', w', hr, h2, h3, h4⟩ := snoc_run (ty := o.type) hu hinf hzs h0 hby hown hb hn hlit hcs h1
  exact Lib.wp_append_run _ s x t t ho v _ hs hx v' w' hr (h v' w' h2 h3 (h3.size) h4)
theorem World.size_le_alloc (w : World) (o : Obj) : w.heap.size ≤ (w.alloc o).heap.size := by simp
theorem flatQ_snoc (l : List Ask) (x : Ask) : flatQ (l ++ [x]) = flatQ l ++ qcells x := by simp [flatQ]

set_option maxHeartbeats 4000000 in
set_option maxRecDepth 100000 in
theorem With_any {v : Value} {l : List Ask} (b : Ask) {w : World} (hv : w.ownsRow 0 137 8 v l.length (flatQ l)) (hl : l.length < 1000) :
    Calls Tryz.prog 112 #[v, askV b] w fun e w' => ∃ v', e = .returned v' ∧ w'.ownsRow w.heap.size 137 8 v' (l ++ [b]).length (flatQ (l ++ [b])) ∧ Below w.heap.size w w' := by
  have HV := Hid.mk hv
  clear hv
  have HAV := Hid.mk (show askV b = .agg #[.int .i64 b.p, .int .i64 b.file, .int .i64 b.rn.p, .int .i64 b.rn.k, .int .i64 b.rn.f, .int .i64 b.rn.t, ptrV b.ow, .int .i64 b.wk] from rfl)
  rw [HAV.out]
  have HBX := Hid.mk (show b.boxed = .cells #[.int .i64 b.p, .int .i64 b.file, .int .i64 b.rn.p, .int .i64 b.rn.k, .int .i64 b.rn.f, .int .i64 b.rn.t, ptrV b.ow, .int .i64 b.wk] 137 from rfl)
  have hb0 := (Below.refl w.heap.size w).alloc (Nat.le_refl _) b.boxed
  have HK := Hid.mk (fun (W : World) (h : Below (w.heap.size + 1) (w.alloc b.boxed) W) => Clone_any (own_below HV.out (hb0.trans (h.mono (Nat.le_succ _)))) hl)
  have HB0 := Hid.mk hb0
  have HBA := Hid.mk (fun (W : World) (h : Below (w.heap.size + 1) (w.alloc b.boxed) W) => boxed_at h (Nat.lt_succ_self _))
  clear hb0
  rw [HBX.out] at HK HBA HB0
  have HL0 := Hid.mk (show ((w.alloc (.cells #[.int .i64 b.p, .int .i64 b.file, .int .i64 b.rn.p, .int .i64 b.rn.k, .int .i64 b.rn.f, .int .i64 b.rn.t, ptrV b.ow, .int .i64 b.wk] 137)).alloc (.cells #[.int .i64 b.p, .int .i64 b.file, .int .i64 b.rn.p, .int .i64 b.rn.k, .int .i64 b.rn.f, .int .i64 b.rn.t, ptrV b.ow, .int .i64 b.wk] 137)).drew.heap[w.heap.size + 1]? = some (.cells #[.int .i64 b.p, .int .i64 b.file, .int .i64 b.rn.p, .int .i64 b.rn.k, .int .i64 b.rn.f, .int .i64 b.rn.t, ptrV b.ow, .int .i64 b.wk] 137 (0, 0)) from by have hn2 := heap_alloc_new (w.alloc (.cells #[.int .i64 b.p, .int .i64 b.file, .int .i64 b.rn.p, .int .i64 b.rn.k, .int .i64 b.rn.f, .int .i64 b.rn.t, ptrV b.ow, .int .i64 b.wk] 137)) (.cells #[.int .i64 b.p, .int .i64 b.file, .int .i64 b.rn.p, .int .i64 b.rn.k, .int .i64 b.rn.f, .int .i64 b.rn.t, ptrV b.ow, .int .i64 b.wk] 137); simp only [World.size_alloc] at hn2; exact hn2)
  have HN : Hid (l.length ≤ 100000) := by exact Nat.le_of_lt (Nat.lt_of_lt_of_le hl (by decide))
  clear HAV HBX
  go_enter Tryz.func112, Tryz.ntmps112
  go_wp2_with fail
  unfold ptrV at *
  generalize hA : b.ow.map (fun b => (⟨b, 0, none⟩ : Addr)) = A at *
  have HA := Hid.mk hA
  clear hA
  go_region_held3 (fun u => u.cell? ⟨w.heap.size, 0, none⟩ = some (.int .i64 b.p) ∧ u.cell? ⟨w.heap.size, 1, none⟩ = some (.int .i64 b.file) ∧ u.cell? ⟨w.heap.size, 2, none⟩ = some (.int .i64 b.rn.p) ∧ u.cell? ⟨w.heap.size, 3, none⟩ = some (.int .i64 b.rn.k) ∧ u.cell? ⟨w.heap.size, 4, none⟩ = some (.int .i64 b.rn.f) ∧ u.cell? ⟨w.heap.size, 5, none⟩ = some (.int .i64 b.rn.t) ∧ u.cell? ⟨w.heap.size, 6, none⟩ = some (.pointer A) ∧ u.cell? ⟨w.heap.size, 7, none⟩ = some (.int .i64 b.wk)) (simp [go_sem, World.cell?_alloc_past, *])
    (first
      | (go_at_call 132; refine (HK.out _ ((Below.refl (w.heap.size + 1) (w.alloc (.cells #[.int .i64 b.p, .int .i64 b.file, .int .i64 b.rn.p, .int .i64 b.rn.k, .int .i64 b.rn.f, .int .i64 b.rn.t, .pointer A, .int .i64 b.wk] 137))).drew)).mono ?_; rintro e w1 ⟨v1, rfl, ho1, hb1⟩; have HO1 := Hid.mk ho1; have HB1 := Hid.mk hb1; obtain ⟨e0, e1, e2, e3, e4, e5, e6, e7⟩ := HBA.out w1 (((Below.refl (w.heap.size + 1) (w.alloc (.cells #[.int .i64 b.p, .int .i64 b.file, .int .i64 b.rn.p, .int .i64 b.rn.k, .int .i64 b.rn.f, .int .i64 b.rn.t, .pointer A, .int .i64 b.wk] 137))).drew).trans (hb1.mono (by simp))); have hz1 := hb1.size; have HSZ := Hid.mk hz1; have HSA := Hid.mk (Nat.le_trans hz1 (World.size_le_alloc w1 (.cells #[.int .i64 b.p, .int .i64 b.file, .int .i64 b.rn.p, .int .i64 b.rn.k, .int .i64 b.rn.f, .int .i64 b.rn.t, .pointer A, .int .i64 b.wk] 137))); simp at hz1; have hww : w.heap.size < w1.heap.size := (by omega); clear ho1 hb1)
      | (go_at_call 132; refine (HK.out _ (((Below.refl (w.heap.size + 1) (w.alloc (.cells #[.int .i64 b.p, .int .i64 b.file, .int .i64 b.rn.p, .int .i64 b.rn.k, .int .i64 b.rn.f, .int .i64 b.rn.t, .pointer A, .int .i64 b.wk] 137))).alloc (by simp) (.cells #[.int .i64 b.p, .int .i64 b.file, .int .i64 b.rn.p, .int .i64 b.rn.k, .int .i64 b.rn.f, .int .i64 b.rn.t, .pointer A, .int .i64 b.wk] 137)).drew)).mono ?_; rintro e w1 ⟨v1, rfl, ho1, hb1⟩; have HO1 := Hid.mk ho1; have HB1 := Hid.mk hb1; obtain ⟨e0, e1, e2, e3, e4, e5, e6, e7⟩ := HBA.out w1 ((((Below.refl (w.heap.size + 1) (w.alloc (.cells #[.int .i64 b.p, .int .i64 b.file, .int .i64 b.rn.p, .int .i64 b.rn.k, .int .i64 b.rn.f, .int .i64 b.rn.t, .pointer A, .int .i64 b.wk] 137))).alloc (by simp) (.cells #[.int .i64 b.p, .int .i64 b.file, .int .i64 b.rn.p, .int .i64 b.rn.k, .int .i64 b.rn.f, .int .i64 b.rn.t, .pointer A, .int .i64 b.wk] 137)).drew).trans (hb1.mono (by simp))); have hz1 := hb1.size; have HSZ := Hid.mk hz1; have HSA := Hid.mk (Nat.le_trans hz1 (World.size_le_alloc w1 (.cells #[.int .i64 b.p, .int .i64 b.file, .int .i64 b.rn.p, .int .i64 b.rn.k, .int .i64 b.rn.f, .int .i64 b.rn.t, .pointer A, .int .i64 b.wk] 137))); simp at hz1; have hww : w.heap.size < w1.heap.size := (by omega); have HL2 := Hid.mk ((hb1.block (w.heap.size + 1) (by simp)).trans HL0.out); clear ho1 hb1)
      | ((refine step_snoc (by rfl) _ _ _ (by rfl) Tryz.underlying98 Tryz.infoAsk (by rfl) (by decide) (by decide) (by rfl) (HO1.out.alloc _) HSA.out HN.out (cs := #[.int .i64 b.p, .int .i64 b.file, .int .i64 b.rn.p, .int .i64 b.rn.k, .int .i64 b.rn.f, .int .i64 b.rn.t, .pointer A, .int .i64 b.wk]) (by rfl) (heap_alloc_new w1 _) (by rfl) (by simp [Value.oneCell']) ?_; intro v2 w2 ho2 hb2 hz2 hk2; have HO2 := Hid.mk ho2; have HB2 := Hid.mk hb2; have hbk := (hk2 w.heap.size (Nat.lt_of_lt_of_le hww (by simp)) (fun e => by have := (HO1.out.lt _ e).1; simp at this; omega)).trans (Below.heap_alloc _ _ _ hww); have k0 := (World.cell?_of_block (a := ⟨w.heap.size, 0, none⟩) hbk).trans e0; have k1 := (World.cell?_of_block (a := ⟨w.heap.size, 1, none⟩) hbk).trans e1; have k2 := (World.cell?_of_block (a := ⟨w.heap.size, 2, none⟩) hbk).trans e2; have k3 := (World.cell?_of_block (a := ⟨w.heap.size, 3, none⟩) hbk).trans e3; have k4 := (World.cell?_of_block (a := ⟨w.heap.size, 4, none⟩) hbk).trans e4; have k5 := (World.cell?_of_block (a := ⟨w.heap.size, 5, none⟩) hbk).trans e5; have k6 := (World.cell?_of_block (a := ⟨w.heap.size, 6, none⟩) hbk).trans e6; have k7 := (World.cell?_of_block (a := ⟨w.heap.size, 7, none⟩) hbk).trans e7; clear ho2 hb2 hk2 hbk))
      | ((refine step_snoc (by rfl) _ _ _ (by rfl) Tryz.underlying98 Tryz.infoAsk (by rfl) (by decide) (by decide) (by rfl) HO1.out HSZ.out HN.out (cs := #[.int .i64 b.p, .int .i64 b.file, .int .i64 b.rn.p, .int .i64 b.rn.k, .int .i64 b.rn.f, .int .i64 b.rn.t, .pointer A, .int .i64 b.wk]) (by rfl) HL2.out (by rfl) (by simp [Value.oneCell']) ?_; intro v2 w2 ho2 hb2 hz2 hk2; have HO2 := Hid.mk ho2; have HB2 := Hid.mk hb2; have hbk := hk2 w.heap.size hww (fun e => by have := (HO1.out.lt _ e).1; simp at this; omega); have k0 := (World.cell?_of_block (a := ⟨w.heap.size, 0, none⟩) hbk).trans e0; have k1 := (World.cell?_of_block (a := ⟨w.heap.size, 1, none⟩) hbk).trans e1; have k2 := (World.cell?_of_block (a := ⟨w.heap.size, 2, none⟩) hbk).trans e2; have k3 := (World.cell?_of_block (a := ⟨w.heap.size, 3, none⟩) hbk).trans e3; have k4 := (World.cell?_of_block (a := ⟨w.heap.size, 4, none⟩) hbk).trans e4; have k5 := (World.cell?_of_block (a := ⟨w.heap.size, 5, none⟩) hbk).trans e5; have k6 := (World.cell?_of_block (a := ⟨w.heap.size, 6, none⟩) hbk).trans e6; have k7 := (World.cell?_of_block (a := ⟨w.heap.size, 7, none⟩) hbk).trans e7; clear ho2 hb2 hk2 hbk)))
  all_goals go_wp2
  all_goals go_ret
  all_goals refine ⟨_, rfl, ?_, ?_⟩
  all_goals have hq : qcells b = (#[.int .i64 b.p, .int .i64 b.file, .int .i64 b.rn.p, .int .i64 b.rn.k, .int .i64 b.rn.f, .int .i64 b.rn.t, .pointer A, .int .i64 b.wk] : Array Value).toList := by simp [qcells, ptrV, HA.out]
  · rw [flatQ_snoc, hq]
    exact own_mono HO2.out (by simp)
  · exact (((HB0.out.drew).trans (HB1.out.mono (by simp))).alloc (by omega) _).trans (HB2.out.mono (by simp))
  · rw [flatQ_snoc, hq]
    exact own_mono HO2.out (by simp; omega)
  · exact (((HB0.out.alloc (by simp) _).drew).trans (HB1.out.mono (by simp; omega))).trans (HB2.out.mono (by simp; omega))
end Go.Proofs.YtaicdjhblbobbaaGreat
