/- What is in the way, piece by piece, as the document's answer gathers it. -/
import Derived.Test.YtaicdjhblbobbaaGreatPPureB
namespace Go.Proofs.YtaicdjhblbobbaaGreat

def wayQ (a : Ask) (l : List Ask) : List (List Int) := (l.filter a.bites).map fun b => [b.p]
def DK.wayH (d : DK) (a : Ask) (n : Nat) : List (List Int) := ((ps6.take n).filter (d.hold a)).map fun q => [q]
def DK.wayC (d : DK) (a : Ask) (o : Nat) : Bool := decide (o ≠ a.o) && decide (d.file o = (a.file : Int)) && d.held o && biteB a.k (d.kind o)
def DK.wayW (d : DK) (a : Ask) (n : Nat) : List (List Int) := ((List.range n).filter (d.wayC a)).map fun o => d.sharers o
theorem DK.way_range (d : DK) {a : Ask} (l : List Ask) (h : a.whole = false) : d.way a l = wayQ a l ++ d.wayH a 6 := by
  unfold DK.way wayQ DK.wayH
  rw [h]
  rfl
theorem DK.way_whole (d : DK) {a : Ask} (l : List Ask) (h : a.whole = true) : d.way a l = wayQ a l ++ d.wayW a d.O.length := by
  unfold DK.way wayQ DK.wayW
  rw [h]
  rfl
theorem wayQ_snoc {a b : Ask} {l : List Ask} {n : Nat} (h : l[n]? = some b) : wayQ a (l.take (n + 1)) = wayQ a (l.take n) ++ (if a.bites b = true then [[b.p]] else []) := by
  unfold wayQ
  rw [List.take_add_one, h, List.filter_append, List.map_append]
  congr 1
  cases e : a.bites b <;> simp [e]
theorem wayQ_len (a : Ask) (l : List Ask) : (wayQ a l).length ≤ l.length := by
  unfold wayQ
  rw [List.length_map]
  exact List.length_filter_le _ _
theorem DK.wayH_snoc (d : DK) (a : Ask) {n : Nat} (h : n < 6) : d.wayH a (n + 1) = d.wayH a n ++ (if d.hold a (n : Int) = true then [[(n : Int)]] else []) := by
  unfold DK.wayH
  have e : ps6[n]? = some (n : Int) := by
    match n, h with
    | 0, _ | 1, _ | 2, _ | 3, _ | 4, _ | 5, _ => rfl
  rw [List.take_add_one, e, List.filter_append, List.map_append]
  congr 1
  cases e : d.hold a (n : Int) <;> simp [e]
theorem DK.wayH_len (d : DK) (a : Ask) (n : Nat) : (d.wayH a n).length ≤ 6 := by
  unfold DK.wayH
  rw [List.length_map]
  exact Nat.le_trans (List.length_filter_le _ _) (Nat.le_trans (List.length_take_le' _ _) (by decide))
theorem DK.wayW_snoc (d : DK) (a : Ask) (n : Nat) : d.wayW a (n + 1) = d.wayW a n ++ (if d.wayC a n = true then [d.sharers n] else []) := by
  unfold DK.wayW
  rw [List.range_succ, List.filter_append, List.map_append]
  congr 1
  cases e : d.wayC a n <;> simp [e]
theorem DK.wayW_len (d : DK) (a : Ask) (n : Nat) : (d.wayW a n).length ≤ n := by
  unfold DK.wayW
  rw [List.length_map]
  exact Nat.le_trans (List.length_filter_le _ _) (by simp)
end Go.Proofs.YtaicdjhblbobbaaGreat
