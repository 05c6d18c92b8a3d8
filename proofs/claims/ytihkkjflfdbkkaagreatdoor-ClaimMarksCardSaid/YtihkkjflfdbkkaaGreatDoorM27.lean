/- Layer 17's example: the steps of a state with no processes, with a claim. -/
import Derived.Test.YtihkkjflfdbkkaaGreatDoorM24
import Derived.Test.YtihkkjflfdbkkaaGreatDoorM26
import Derived.BigRegion
import Derived.Deep.RegionLaw
import Derived.RegionTactic
namespace Go.Proofs.YtihkkjflfdbkkaaGreatDoor
open Go.ChangeShapes Go.WideShapes Go.ChangeAt Go.RowKit
set_option linter.unusedVariables false
set_option linter.unusedSimpArgs false

/-- The example's model and state, their cells. -/
def cM (p : Nat) : Array Value := #[.slice none 0 0, .slice none 0 0, .slice none 0 0, .slice none 0 0, .slice (some ⟨p, 0, none⟩) 1 1, .int .i64 0, .slice none 0 0]
def cS : Array Value := #[.slice none 0 0, .slice none 0 0, .slice none 0 0, .int .i64 0, .int .i64 (-1), .int .i64 0]
/-- The place's ways, in memory. -/
structure Pl (p l t : Nat) (W : World) : Prop where
  hp : p < W.heap.size
  hl : l < W.heap.size
  ht : t < W.heap.size
  c1 : W.cell? ⟨p, 4, none⟩ = some (.slice (some ⟨l, 0, none⟩) 2 2)
  c2 : W.cell? ⟨l, 0, none⟩ = some (.slice (some ⟨t, 0, none⟩) 1 1)
  c3 : W.cell? ⟨t, 0, none⟩ = some (.int .i64 8)
  c4 : W.cell? ⟨t, 7, none⟩ = some (.int .i64 0)
theorem Pl.below {p l t : Nat} {W W' : World} (k : Pl p l t W) (hb : Below W.heap.size W W') : Pl p l t W' :=
  ⟨Nat.lt_of_lt_of_le k.hp hb.size, Nat.lt_of_lt_of_le k.hl hb.size, Nat.lt_of_lt_of_le k.ht hb.size, (hb.cell (by exact k.hp)).trans k.c1, (hb.cell (by exact k.hl)).trans k.c2, (hb.cell (by exact k.ht)).trans k.c3, (hb.cell (by exact k.ht)).trans k.c4⟩
/-- The two boxes. -/
structure Bo (w : World) (p l t : Nat) (W : World) : Prop where
  bm : W.heap[w.heap.size]? = some (.cells (cM p) 29 (0, 0))
  bs : W.heap[w.heap.size + 1]? = some (.cells cS 33 (0, 0))
  bel : Below w.heap.size w W
  pl : Pl p l t W
theorem Bo.below {w W W' : World} {p l t : Nat} (k : Bo w p l t W) (hb : Below W.heap.size W W') : Bo w p l t W' :=
  ⟨(hb.block _ (lt_of_block k.bm)).trans k.bm, (hb.block _ (lt_of_block k.bs)).trans k.bs, k.bel.trans (hb.mono k.bel.size), k.pl.below hb⟩
theorem Bo.new {w : World} {p l t : Nat} (k : Pl p l t w) : Bo w p l t ((w.alloc (.cells (cM p) 29)).alloc (.cells cS 33)) := by
  have h0 := heap_alloc_new w (.cells (cM p) 29)
  have h1 := heap_alloc_new (w.alloc (.cells (cM p) 29)) (.cells cS 33)
  rw [World.size_alloc] at h1
  have hb : Below w.heap.size w ((w.alloc (.cells (cM p) 29)).alloc (.cells cS 33)) := ((Below.refl _ w).alloc (Nat.le_refl _) _).alloc (by simp) _
  exact ⟨(Below.heap_alloc _ _ _ (by simp)).trans h0, h1, hb, k.below hb⟩
theorem Bo.cm {w W : World} {p l t : Nat} (k : Bo w p l t W) {i : Nat} {v : Value} (h : (cM p)[i]? = some v) : W.cell? ⟨w.heap.size, i, none⟩ = some v := (cell_of_row _ _ _ _ _ _ k.bm).trans h
theorem Bo.cs {w W : World} {p l t : Nat} (k : Bo w p l t W) {i : Nat} {v : Value} (h : cS[i]? = some v) : W.cell? ⟨w.heap.size + 1, i, none⟩ = some v := (cell_of_row _ _ _ _ _ _ k.bs).trans h
/-- What a state's check and its copy do there, whatever lies behind. -/
structure Cs (w : World) (p : Nat) : Prop where
  chk : ∀ W, Below w.heap.size w W → Calls Tryz.prog 17 #[.agg (cM p), .agg cS] W fun e w' => e = .returned (.int .i64 0) ∧ Below W.heap.size W w'
  cpy : ∀ W, Below w.heap.size w W → Calls Tryz.prog 32 #[.agg cS] W fun e w' => (∃ g gc c cc p pc, e = .returned (.agg #[.slice g 0 gc, .slice c 0 cc, .slice p 0 pc, .int .i64 0, .int .i64 (-1), .int .i64 0])) ∧ Below W.heap.size W w'
theorem able1 {w : World} {p : Nat} (k : Cs w p) (W : World) (hb : Below w.heap.size w W) : Calls Tryz.prog 29 #[.agg (cM p), .agg cS] W (AbleP W) :=
  ableC W (k.chk _ (hb.trans ((((Below.refl _ W).alloc (Nat.le_refl _) _).alloc (by simp) _).mono hb.size)))
theorem steps1 {w : World} {p : Nat} (k : Cs w p) (W : World) (hb : Below w.heap.size w W) : Calls Tryz.prog 28 #[.agg (cM p), .agg cS] W fun e w' => e = .returned (.tuple #[.slice none 0 0, .int .i64 0]) ∧ Below W.heap.size W w' := by
  have h1 : Below w.heap.size w ((W.alloc (.cells (cM p) 29)).alloc (.cells cS 33)) := hb.trans ((((Below.refl _ W).alloc (Nat.le_refl _) _).alloc (by simp) _).mono hb.size)
  refine stepsC W (lookC _ (able1 k _ (h1.trans ?_)))
  exact (((Below.refl _ _).alloc (Nat.le_refl _) _).alloc (by simp) _).mono h1.size

def nZ : Array Value := #[.int .i64 0, .int .i64 0, .int .i64 0, .int .i64 0, .int .i64 0, .int .i64 0, .int .i64 0, .slice none 0 0, .slice none 0 0, .slice none 0 0, .int .i64 0, .int .i64 0, .int .i64 0, .int .i64 0, .string ⟨#[]⟩]
theorem infoNext : (Tryz.prog.info? 63).map (fun i => (i.zero, i.size, i.bytes)) = some (some (.agg nZ), 15, 176) := by kernel_rfl
theorem bel_go {A B C : World} (h : Below A.heap.size A B) (k : Below B.heap.size B C) : Below A.heap.size A C := h.trans (k.mono h.size)
theorem zero_new {X W : World} (hb : Below (X.alloc (.cells nZ 63)).heap.size (X.alloc (.cells nZ 63)) W) : W.heap[X.heap.size]? = some (.cells nZ 63 (0, 0)) :=
  (hb.block _ (by simp)).trans (heap_alloc_new X _)
theorem zero_cells {W : World} {b : Nat} (h : W.heap[b]? = some (.cells nZ 63 (0, 0))) : W.cell? ⟨b, 0, none⟩ = some (.int .i64 0) ∧ W.cell? ⟨b, 1, none⟩ = some (.int .i64 0) ∧ W.cell? ⟨b, 2, none⟩ = some (.int .i64 0) ∧ W.cell? ⟨b, 3, none⟩ = some (.int .i64 0) ∧ W.cell? ⟨b, 4, none⟩ = some (.int .i64 0) ∧ W.cell? ⟨b, 5, none⟩ = some (.int .i64 0) ∧ W.cell? ⟨b, 6, none⟩ = some (.int .i64 0) ∧ W.cell? ⟨b, 7, none⟩ = some (.slice none 0 0) ∧ W.cell? ⟨b, 8, none⟩ = some (.slice none 0 0) ∧ W.cell? ⟨b, 9, none⟩ = some (.slice none 0 0) ∧ W.cell? ⟨b, 10, none⟩ = some (.int .i64 0) ∧ W.cell? ⟨b, 11, none⟩ = some (.int .i64 0) ∧ W.cell? ⟨b, 12, none⟩ = some (.int .i64 0) ∧ W.cell? ⟨b, 13, none⟩ = some (.int .i64 0) ∧ W.cell? ⟨b, 14, none⟩ = some (.string ⟨#[]⟩) :=
  ⟨(cell_of_row _ _ 0 _ _ _ h).trans rfl, (cell_of_row _ _ 1 _ _ _ h).trans rfl, (cell_of_row _ _ 2 _ _ _ h).trans rfl, (cell_of_row _ _ 3 _ _ _ h).trans rfl, (cell_of_row _ _ 4 _ _ _ h).trans rfl, (cell_of_row _ _ 5 _ _ _ h).trans rfl, (cell_of_row _ _ 6 _ _ _ h).trans rfl, (cell_of_row _ _ 7 _ _ _ h).trans rfl, (cell_of_row _ _ 8 _ _ _ h).trans rfl, (cell_of_row _ _ 9 _ _ _ h).trans rfl, (cell_of_row _ _ 10 _ _ _ h).trans rfl, (cell_of_row _ _ 11 _ _ _ h).trans rfl, (cell_of_row _ _ 12 _ _ _ h).trans rfl, (cell_of_row _ _ 13 _ _ _ h).trans rfl, (cell_of_row _ _ 14 _ _ _ h).trans rfl⟩
theorem zero_frozen {W : World} {b : Nat} (h : W.heap[b]? = some (.cells nZ 63 (0, 0))) (i : Nat) : W.frozen? ⟨b, i, none⟩ = false := frozen_of_row _ _ _ _ _ h
theorem setCells_heap {b : Nat} {T : TypeId} (vs : List Value) : ∀ (i : Nat) (W : World) (cs : Array Value), W.heap[b]? = some (.cells cs T (0, 0)) → (W.setCells b i vs).heap[b]? = some (.cells (setL cs i vs) T (0, 0)) := by
  induction vs with
  | nil => intro i W cs h; exact h
  | cons v vs ih => intro i W cs h; exact ih _ _ _ (heap_setCell_same W b i cs T v h)
theorem setCells_bel {b n : Nat} {w : World} (hn : n ≤ b) (vs : List Value) : ∀ (i : Nat) (W : World), Below n w W → Below n w (W.setCells b i vs) := by
  induction vs with
  | nil => intro i W h; exact h
  | cons v vs ih => intro i W h; exact ih _ _ (h.setCell (by exact hn) _)
/-- Each value fills one cell. -/
def ones : List Value → Bool
  | [] => true
  | v :: r => v.oneCell' && ones r
theorem ones_nil : ones [] = true := by unfold ones; simp
theorem ones_int (k : IntKind) (z : Int) (r : List Value) : ones (.int k z :: r) = ones r := by cases r <;> rfl
theorem ones_bool (b : Bool) (r : List Value) : ones (.bool b :: r) = ones r := by cases r <;> rfl
theorem ones_str (b : ByteArray) (r : List Value) : ones (.string b :: r) = ones r := by cases r <;> rfl
theorem ones_slice (a : Option Addr) (n c : Nat) (r : List Value) : ones (.slice a n c :: r) = ones r := by cases r <;> rfl
theorem ones_ptr (a : Option Addr) (r : List Value) : ones (.pointer a :: r) = ones r := by cases r <;> rfl
theorem ones_mem : ∀ {l : List Value}, ones l = true → ∀ v ∈ l, v.oneCell' = true
  | [], _, v, hv => by cases hv
  | x :: r, h, v, hv => by
    unfold ones at h
    rw [Bool.and_eq_true] at h
    rcases List.mem_cons.1 hv with rfl | hv
    · exact h.1
    · exact ones_mem h.2 v hv
def sameLen : List Value → List Value → Bool
  | [], [] => true
  | _ :: l, _ :: r => sameLen l r
  | _, _ => false
theorem sameLen_nil : sameLen [] [] = true := by unfold sameLen; simp
theorem sameLen_cons (a b : Value) (l r : List Value) : sameLen (a :: l) (b :: r) = sameLen l r := by cases l <;> rfl
theorem sameLen_eq : ∀ {l r : List Value}, sameLen l r = true → l.length = r.length
  | [], [], _ => rfl
  | _ :: l, _ :: r, h => by rw [List.length_cons, List.length_cons, sameLen_eq (l := l) (r := r) h]
  | [], _ :: _, h => by cases h
  | _ :: _, [], h => by cases h
def nN (z1 : Option Addr) (z2 : Nat) (z3 : Option Addr) (z4 : Nat) (z5 : Option Addr) (z6 : Nat) : Array Value := #[.int .i64 (-1), .int .i64 (-1), .int .i64 (-1), .int .i64 (-1), .int .i64 (-1), .int .i64 (-1), .int .i64 0, .slice z1 0 z2, .slice z3 0 z4, .slice z5 0 z6, .int .i64 0, .int .i64 (-1), .int .i64 0, .int .i64 0, .string ⟨#[]⟩]
theorem nN_set (z1 : Option Addr) (z2 : Nat) (z3 : Option Addr) (z4 : Nat) (z5 : Option Addr) (z6 : Nat) : setL nZ 0 [.int .i64 (-1), .int .i64 (-1), .int .i64 (-1), .int .i64 (-1), .int .i64 (-1), .int .i64 (-1), .int .i64 0, .slice z1 0 z2, .slice z3 0 z4, .slice z5 0 z6, .int .i64 0, .int .i64 (-1), .int .i64 0, .int .i64 0, .string ⟨#[]⟩] = nN z1 z2 z3 z4 z5 z6 := setL_all [.int .i64 (-1), .int .i64 (-1), .int .i64 (-1), .int .i64 (-1), .int .i64 (-1), .int .i64 (-1), .int .i64 0, .slice z1 0 z2, .slice z3 0 z4, .slice z5 0 z6, .int .i64 0, .int .i64 (-1), .int .i64 0, .int .i64 0, .string ⟨#[]⟩] [] [.int .i64 0, .int .i64 0, .int .i64 0, .int .i64 0, .int .i64 0, .int .i64 0, .int .i64 0, .slice none 0 0, .slice none 0 0, .slice none 0 0, .int .i64 0, .int .i64 0, .int .i64 0, .int .i64 0, .string ⟨#[]⟩] rfl
theorem fin_blk {W : World} {b : Nat} (z1 : Option Addr) (z2 : Nat) (z3 : Option Addr) (z4 : Nat) (z5 : Option Addr) (z6 : Nat) (h : W.heap[b]? = some (.cells nZ 63 (0, 0))) : (W.setCells b 0 [.int .i64 (-1), .int .i64 (-1), .int .i64 (-1), .int .i64 (-1), .int .i64 (-1), .int .i64 (-1), .int .i64 0, .slice z1 0 z2, .slice z3 0 z4, .slice z5 0 z6, .int .i64 0, .int .i64 (-1), .int .i64 0, .int .i64 0, .string ⟨#[]⟩]).heap[b]? = some (.cells (nN z1 z2 z3 z4 z5 z6) 63 (0, 0)) := by
  rw [← nN_set]
  exact setCells_heap _ 0 _ _ h
theorem fin_new {W : World} (z1 : Option Addr) (z2 : Nat) (z3 : Option Addr) (z4 : Nat) (z5 : Option Addr) (z6 : Nat) : (W.alloc (.cells (List.toArray [.int .i64 (-1), .int .i64 (-1), .int .i64 (-1), .int .i64 (-1), .int .i64 (-1), .int .i64 (-1), .int .i64 0, .slice z1 0 z2, .slice z3 0 z4, .slice z5 0 z6, .int .i64 0, .int .i64 (-1), .int .i64 0, .int .i64 0, .string ⟨#[]⟩]) 63)).heap[W.heap.size]? = some (.cells (nN z1 z2 z3 z4 z5 z6) 63 (0, 0)) := heap_alloc_new _ _
theorem store_blk {W : World} {b : Nat} {vs : List Value} (h : W.heap[b]? = some (.cells nZ 63 (0, 0))) (hl : sameLen ([.int .i64 0, .int .i64 0, .int .i64 0, .int .i64 0, .int .i64 0, .int .i64 0, .int .i64 0, .slice none 0 0, .slice none 0 0, .slice none 0 0, .int .i64 0, .int .i64 0, .int .i64 0, .int .i64 0, .string ⟨#[]⟩] : List Value) vs = true) (h1 : ones vs = true) :
    (storeCells ⟨b, 0, none⟩ vs 0).run Tryz.prog W = .ok () (W.setCells b 0 vs) := by
  refine (run_storeCells_cells b 0 vs 0 W (fun j hj => ?_) (fun j hj => frozen_of_row _ _ _ _ _ h) (ones_mem h1)).trans rfl
  rw [cell_of_row _ _ _ _ _ _ h]
  have h15 : nZ.size = 15 := rfl
  have h16 : 15 = vs.length := sameLen_eq hl
  have h2 : j < nZ.size := by omega
  simp [h2]
theorem store_fresh (W : World) (T : TypeId) (cs : Array Value) (vs : List Value) (hl : sameLen cs.toList vs = true) (h1 : ones vs = true) :
    (storeCells ⟨W.heap.size, 0, none⟩ vs 0).run Tryz.prog (W.alloc (.cells cs T)) = .ok () (W.alloc (.cells vs.toArray T)) := by
  refine (run_storeCells_cells W.heap.size 0 vs 0 _ (fun j hj => ?_) (fun j hj => frozen_of_row _ _ _ _ _ (heap_alloc_new W _)) (ones_mem h1)).trans ?_
  · rw [cell_of_row _ _ _ _ _ _ (heap_alloc_new W _)]
    have h2 : j < cs.size := by rw [← Array.length_toList, sameLen_eq hl]; exact hj
    simp [h2]
  · rw [setCells_fresh, Nat.zero_add]
    have h3 := setL_all vs [] cs.toList (sameLen_eq hl)
    simp only [List.nil_append, List.length_nil, Array.toArray_toList] at h3
    rw [h3]
theorem store_freshD (W : World) (T : TypeId) (cs : Array Value) (vs : List Value) (hl : sameLen cs.toList vs = true) (h1 : ones vs = true) :
    (storeCells ⟨W.heap.size, 0, none⟩ vs 0).run Tryz.prog (W.alloc (.cells cs T)).drew = .ok () (W.alloc (.cells vs.toArray T)).drew := store_fresh W.drew T cs vs hl h1
attribute [-go_sem] storeCells
attribute [local go_sem] store_blk store_fresh store_freshD store_single sameLen_nil sameLen_cons ones_nil ones_int ones_bool ones_str ones_slice ones_ptr

set_option maxRecDepth 100000 in
set_option maxHeartbeats 8000000 in
theorem claimSteps {p l t : Nat} (w : World) (hk : Pl p l t w) (hc : Cs w p) :
    Calls Tryz.prog 15 #[.agg (cM p), .agg cS] w fun e w' => (∃ g c, e = .returned (.tuple #[.slice (some ⟨g, 0, none⟩) 1 c, .int .i64 0]) ∧ w'.cell? ⟨g, 0, none⟩ = some (.int .i64 (-1)) ∧ w'.cell? ⟨g, 1, none⟩ = some (.int .i64 (-1)) ∧ w'.cell? ⟨g, 2, none⟩ = some (.int .i64 (-1)) ∧ w'.cell? ⟨g, 3, none⟩ = some (.int .i64 (-1)) ∧ w'.cell? ⟨g, 4, none⟩ = some (.int .i64 (-1)) ∧ w'.cell? ⟨g, 5, none⟩ = some (.int .i64 (-1)) ∧ w'.cell? ⟨g, 6, none⟩ = some (.int .i64 0) ∧ g < w'.heap.size) ∧ Below w.heap.size w w' := by
  have HB1 := Lib.hid (Bo.new hk)
  have HC := Lib.hid hc
  have HIM : Hid ((Tryz.prog.info? 29).map (·.size) = some (cM p).size) := Lib.hid (by show _ = some 7; kernel_rfl)
  have HIS : Hid ((Tryz.prog.info? 33).map (·.size) = some cS.size) := Lib.hid (by show _ = some 6; kernel_rfl)
  clear hk hc
  go_enter Tryz.func15, Tryz.ntmps15
  go_upto_region 1 with fail
  generalize (w.alloc (.cells (cM p) 29)).alloc (.cells cS 33) = W1 at HB1 ⊢
  go_wp2_with (first | refine wpList_load_row rfl _ _ rfl _ rfl _ (cM p) _ _ HB1.out.bm Tryz.underlying29 rfl HIM.out ?_ | refine wpList_load_row rfl _ _ rfl _ rfl _ cS _ _ HB1.out.bs Tryz.underlying33 rfl HIS.out ?_)
  refine (steps1 HC.out W1 HB1.out.bel).mono ?_
  rintro e W2 ⟨rfl, hb2⟩
  have HB2 := Lib.hid (HB1.out.below hb2)
  have m5 : W2.cell? ⟨w.heap.size, 5, none⟩ = some (.int .i64 0) := HB2.out.cm rfl
  clear hb2 HB1
  go_upto_region 4 with fail
  go_wp2_with (first | refine wpList_load_row rfl _ _ rfl _ rfl _ (cM p) _ _ HB2.out.bm Tryz.underlying29 rfl HIM.out ?_ | refine wpList_load_row rfl _ _ rfl _ rfl _ cS _ _ HB2.out.bs Tryz.underlying33 rfl HIS.out ?_)
  refine (able1 HC.out W2 HB2.out.bel).mono ?_
  rintro e W3 ⟨ao, ac, rfl, hb3⟩
  have HB3 := Lib.hid (HB2.out.below hb3)
  clear hb3 HB2 m5
  go_upto_region 7 with fail
  go_cut [9] from 41 to 57 (fun v W => ∃ b, v = .pointer (some ⟨b, 0, none⟩) ∧ Hid (Bo w p l t W) ∧ Hid (b < W.heap.size) ∧ Hid (W.cell? ⟨b, 16, none⟩ = some (.slice (some ⟨t, 0, none⟩) 1 1)))
  case first =>
    have m0 : W3.cell? ⟨w.heap.size, 0, none⟩ = some (.slice none 0 0) := HB3.out.cm rfl
    have m1 : W3.cell? ⟨w.heap.size, 1, none⟩ = some (.slice none 0 0) := HB3.out.cm rfl
    have m2 : W3.cell? ⟨w.heap.size, 2, none⟩ = some (.slice none 0 0) := HB3.out.cm rfl
    have m3 : W3.cell? ⟨w.heap.size, 3, none⟩ = some (.slice none 0 0) := HB3.out.cm rfl
    have m4 : W3.cell? ⟨w.heap.size, 4, none⟩ = some (.slice (some ⟨p, 0, none⟩) 1 1) := HB3.out.cm rfl
    have m5 : W3.cell? ⟨w.heap.size, 5, none⟩ = some (.int .i64 0) := HB3.out.cm rfl
    have m6 : W3.cell? ⟨w.heap.size, 6, none⟩ = some (.slice none 0 0) := HB3.out.cm rfl
    have s0 : W3.cell? ⟨w.heap.size + 1, 0, none⟩ = some (.slice none 0 0) := HB3.out.cs rfl
    have s1 : W3.cell? ⟨w.heap.size + 1, 1, none⟩ = some (.slice none 0 0) := HB3.out.cs rfl
    have s2 : W3.cell? ⟨w.heap.size + 1, 2, none⟩ = some (.slice none 0 0) := HB3.out.cs rfl
    have s3 : W3.cell? ⟨w.heap.size + 1, 3, none⟩ = some (.int .i64 0) := HB3.out.cs rfl
    have s4 : W3.cell? ⟨w.heap.size + 1, 4, none⟩ = some (.int .i64 (-1)) := HB3.out.cs rfl
    have s5 : W3.cell? ⟨w.heap.size + 1, 5, none⟩ = some (.int .i64 0) := HB3.out.cs rfl
    have p1 := HB3.out.pl.c1
    have p2 := HB3.out.pl.c2
    have ym0 : ∀ o, (W3.alloc o).cell? ⟨w.heap.size, 0, none⟩ = some (.slice none 0 0) := fun o => Lib.cell?_alloc_some o m0
    have ym1 : ∀ o, (W3.alloc o).cell? ⟨w.heap.size, 1, none⟩ = some (.slice none 0 0) := fun o => Lib.cell?_alloc_some o m1
    have ym2 : ∀ o, (W3.alloc o).cell? ⟨w.heap.size, 2, none⟩ = some (.slice none 0 0) := fun o => Lib.cell?_alloc_some o m2
    have ym3 : ∀ o, (W3.alloc o).cell? ⟨w.heap.size, 3, none⟩ = some (.slice none 0 0) := fun o => Lib.cell?_alloc_some o m3
    have ym4 : ∀ o, (W3.alloc o).cell? ⟨w.heap.size, 4, none⟩ = some (.slice (some ⟨p, 0, none⟩) 1 1) := fun o => Lib.cell?_alloc_some o m4
    have ym5 : ∀ o, (W3.alloc o).cell? ⟨w.heap.size, 5, none⟩ = some (.int .i64 0) := fun o => Lib.cell?_alloc_some o m5
    have ym6 : ∀ o, (W3.alloc o).cell? ⟨w.heap.size, 6, none⟩ = some (.slice none 0 0) := fun o => Lib.cell?_alloc_some o m6
    have ys0 : ∀ o, (W3.alloc o).cell? ⟨w.heap.size + 1, 0, none⟩ = some (.slice none 0 0) := fun o => Lib.cell?_alloc_some o s0
    have ys1 : ∀ o, (W3.alloc o).cell? ⟨w.heap.size + 1, 1, none⟩ = some (.slice none 0 0) := fun o => Lib.cell?_alloc_some o s1
    have ys2 : ∀ o, (W3.alloc o).cell? ⟨w.heap.size + 1, 2, none⟩ = some (.slice none 0 0) := fun o => Lib.cell?_alloc_some o s2
    have ys3 : ∀ o, (W3.alloc o).cell? ⟨w.heap.size + 1, 3, none⟩ = some (.int .i64 0) := fun o => Lib.cell?_alloc_some o s3
    have ys4 : ∀ o, (W3.alloc o).cell? ⟨w.heap.size + 1, 4, none⟩ = some (.int .i64 (-1)) := fun o => Lib.cell?_alloc_some o s4
    have ys5 : ∀ o, (W3.alloc o).cell? ⟨w.heap.size + 1, 5, none⟩ = some (.int .i64 0) := fun o => Lib.cell?_alloc_some o s5
    have yp1 : ∀ o, (W3.alloc o).cell? ⟨p, 4, none⟩ = some (.slice (some ⟨l, 0, none⟩) 2 2) := fun o => Lib.cell?_alloc_some o p1
    have yp2 : ∀ o, (W3.alloc o).cell? ⟨l, 0, none⟩ = some (.slice (some ⟨t, 0, none⟩) 1 1) := fun o => Lib.cell?_alloc_some o p2
    have HBN := Lib.hid (HB3.out.below (ball (.cells #[.slice none 0 0, .slice none 0 0, .slice none 0 0, .slice none 0 0, .slice (some ⟨p, 0, none⟩) 1 1, .int .i64 0, .slice none 0 0, .slice none 0 0, .slice none 0 0, .slice none 0 0, .int .i64 0, .int .i64 (-1), .int .i64 0, .int .i64 (-1), .bool false, .slice ao 0 ac, .slice (some ⟨t, 0, none⟩) 1 1] 91)))
    have hbn := heap_alloc_new W3 (.cells #[.slice none 0 0, .slice none 0 0, .slice none 0 0, .slice none 0 0, .slice (some ⟨p, 0, none⟩) 1 1, .int .i64 0, .slice none 0 0, .slice none 0 0, .slice none 0 0, .slice none 0 0, .int .i64 0, .int .i64 (-1), .int .i64 0, .int .i64 (-1), .bool false, .slice ao 0 ac, .slice (some ⟨t, 0, none⟩) 1 1] 91)
    have HBX := Lib.hid hbn
    clear hbn
    go_region
    generalize W3.alloc (.cells #[.slice none 0 0, .slice none 0 0, .slice none 0 0, .slice none 0 0, .slice (some ⟨p, 0, none⟩) 1 1, .int .i64 0, .slice none 0 0, .slice none 0 0, .slice none 0 0, .slice none 0 0, .int .i64 0, .int .i64 (-1), .int .i64 0, .int .i64 (-1), .bool false, .slice ao 0 ac, .slice (some ⟨t, 0, none⟩) 1 1] 91) = W4 at HBN HBX ⊢
    try simp only [Exit.inBlock, Exit.then]
    go_wp2_with fail
    go_meet
    case rel => exact ⟨_, rfl, Lib.hid (HBN.out.below (Below.refl _ _).drew), Lib.hid (lt_of_block HBX.out), Lib.hid ((cell_of_row _ _ 16 _ _ _ HBX.out).trans rfl)⟩
  case rest =>
  obtain ⟨b, rfl, HB4, HBL, H16⟩ := hcut
  clear HB3
  go_wp2_with fail
  refine (wtWaysC b t 1 wc HB4.out.pl.ht HBL.out H16.out HB4.out.pl.c3).mono ?_
  rintro e W5 ⟨g, c, rfl, he0, he1, hg, hb5⟩
  have HB5 := Lib.hid (HB4.out.below hb5)
  have HW5 := Lib.hid (And.intro (Nat.lt_of_lt_of_le HBL.out hb5.size) ((hb5.cell (p := ⟨b, 16, none⟩) HBL.out).trans H16.out))
  have HG5 := Lib.hid (And.intro hg (And.intro he0 he1))
  have HO5 : Hid (W5.ownsRow W5.heap.size 63 15 (.slice none 0 0) 0 []) := Lib.hid (World.ownsRow_nil _ _ _ _)
  have HR5 : Hid (Below W5.heap.size W5 W5) := Lib.hid (Below.refl _ _)
  clear hb5 he0 he1 hg HB4 HBL H16
  go_wp2_with fail
  go_loopw [10, 60] (fun ov iv W => ∃ (k : Nat) (v : Value) (xs : List Value), iv = .int .i64 k ∧ v = ov ∧ k ≤ 1 ∧ Hid (W.ownsRow W5.heap.size 63 15 v k xs) ∧ Hid (k = 1 → xs.take 7 = [.int .i64 (-1), .int .i64 (-1), .int .i64 (-1), .int .i64 (-1), .int .i64 (-1), .int .i64 (-1), .int .i64 0]) ∧ Hid (Below W5.heap.size W5 W)) (fun ov iv _ => 1 - (intOf iv).toNat)
  case atStart => exact ⟨0, _, [], rfl, rfl, by omega, HO5, Lib.hid (fun h => absurd h (by decide)), HR5⟩
  case round =>
    clear HO5 HR5
    obtain ⟨k, v, xs, rfl, rfl, hk, HO, HT, HR⟩ := hrel
    by_cases h1 : k = 1
    · subst h1
      obtain ⟨g', cap', rfl⟩ := ownsRow_succ HO.out
      have HLT := Lib.hid ((HO.out.lt g' rfl).2)
      have HBE := Lib.hid (HB5.out.bel.trans (HR.out.mono HB5.out.bel.size))
      have HCE : Hid (∀ j, j < 7 → wr.cell? ⟨g', j, none⟩ = ([.int .i64 (-1), .int .i64 (-1), .int .i64 (-1), .int .i64 (-1), .int .i64 (-1), .int .i64 (-1), .int .i64 0] : List Value)[j]?) := Lib.hid fun j hj => by
        rw [← HT.out rfl, List.getElem?_take_of_lt hj]
        exact HO.out.cellAt j (by have := HO.out.1; omega)
      clear hk HO HT HR
      go_wp2_with fail
      go_ret2
      exact ⟨⟨g', cap', rfl, HCE.out 0 (by decide), HCE.out 1 (by decide), HCE.out 2 (by decide), HCE.out 3 (by decide), HCE.out 4 (by decide), HCE.out 5 (by decide), HCE.out 6 (by decide), HLT.out⟩, HBE.out⟩
    · obtain rfl : k = 0 := by omega
      have HB6 := Lib.hid (HB5.out.below HR.out)
      have e0 := (HR.out.cell (p := ⟨g, 0, none⟩) HG5.out.1).trans HG5.out.2.1
      have e1 := (HR.out.cell (p := ⟨g, 1, none⟩) HG5.out.1).trans HG5.out.2.2
      go_upto_region 12 with fail
      have HBX := Lib.hid (heap_alloc_new wr (.cells #[.int .i64 0, .int .i64 0] 95))
      have HR7 := Lib.hid (HR.out.alloc HR.out.size (.cells #[.int .i64 0, .int .i64 0] 95))
      have HO7 := Lib.hid (HO.out.alloc (.cells #[.int .i64 0, .int .i64 0] 95))
      generalize wr.alloc (.cells #[.int .i64 0, .int .i64 0] 95) = W6 at HBX HR7 HO7 ⊢
      generalize wr.heap.size = cb at HBX ⊢
      have HB7 := Lib.hid (HB5.out.below HR7.out)
      have c16 := (HR7.out.cell (p := ⟨b, 16, none⟩) HW5.out.1).trans HW5.out.2
      have c7 := HB7.out.pl.c4
      have q0 : W6.cell? ⟨cb, 0, none⟩ = some (.int .i64 0) := (cell_of_row _ _ 0 _ _ _ HBX.out).trans rfl
      have q1 : W6.cell? ⟨cb, 1, none⟩ = some (.int .i64 0) := (cell_of_row _ _ 1 _ _ _ HBX.out).trans rfl
      clear hk h1 e0 e1 HB6 HR HO
      go_upto_region 15 with fail
      go_wp2_with fail
      go_loopw [10, 85] (fun ov iv W => v = ov ∧ iv = .int .i64 0 ∧ W6 = W) (fun _ _ _ => 0)
      case atStart => exact ⟨rfl, rfl, rfl⟩
      case round =>
        obtain ⟨rfl, rfl, rfl⟩ := hrel
        clear c16 c7 q1
        go_upto_region 25 with fail
        have HBW := Lib.hid HB7.out.bel
        have HX7 := Lib.hid HB7.out
        have HD : Below W6.heap.size W6 W6.drew := (Below.refl _ _).drew
        have HD0 : Below W6.heap.size W6 W6 := Below.refl _ _
        have ha : ∀ (W : World) (o : Obj), Below W6.heap.size W6 W → Below W6.heap.size W6 (W.alloc o) := fun W o h => h.alloc h.size o
        have HQ := Lib.hid (lt_of_block HBX.out)
        have r0 : ∀ W, Below W6.heap.size W6 W → W.cell? ⟨cb, 0, none⟩ = some (.int .i64 0) := fun W h => (h.cell (p := ⟨cb, 0, none⟩) HQ.out).trans q0
        have r1 : ∀ W, Below W6.heap.size W6 W → W.cell? ⟨w.heap.size + 1, 0, none⟩ = some (.slice none 0 0) := fun W h => (HX7.out.below h).cs rfl
        have r2 : ∀ W, Below W6.heap.size W6 W → W.cell? ⟨w.heap.size + 1, 1, none⟩ = some (.slice none 0 0) := fun W h => (HX7.out.below h).cs rfl
        have r3 : ∀ W, Below W6.heap.size W6 W → W.cell? ⟨w.heap.size + 1, 2, none⟩ = some (.slice none 0 0) := fun W h => (HX7.out.below h).cs rfl
        have r4 : ∀ W, Below W6.heap.size W6 W → W.cell? ⟨w.heap.size + 1, 3, none⟩ = some (.int .i64 0) := fun W h => (HX7.out.below h).cs rfl
        have r5 : ∀ W, Below W6.heap.size W6 W → W.cell? ⟨w.heap.size + 1, 4, none⟩ = some (.int .i64 (-1)) := fun W h => (HX7.out.below h).cs rfl
        have r6 : ∀ W, Below W6.heap.size W6 W → W.cell? ⟨w.heap.size + 1, 5, none⟩ = some (.int .i64 0) := fun W h => (HX7.out.below h).cs rfl
        clear q0
        go_wp2_with fail
        go_cut [16] from 111 to 116 (fun v W => ∃ (nb : Nat) (z1 : Option Addr) (z2 : Nat) (z3 : Option Addr) (z4 : Nat) (z5 : Option Addr) (z6 : Nat), v = .pointer (some ⟨nb, 0, none⟩) ∧ Hid (W6.heap.size ≤ nb) ∧ Hid (W.heap[nb]? = some (.cells (nN z1 z2 z3 z4 z5 z6) 63 (0, 0))) ∧ Hid (Below W6.heap.size W6 W))
        case first =>
          go_region_law
            (first
              | (go_simp
                 go_at_call 31
                 refine (stillC 0 _).mono ?_
                 rintro e w1 ⟨rfl, hb1⟩
                 have HL1 := bel_go (by first | exact HD | exact ha _ _ HD) hb1
                 try have HZ1 : w1.heap[W6.heap.size]? = some (.cells nZ 63 (0, 0)) := by first | exact zero_new hb1 | exact zero_new (X := W6.drew) hb1
                 clear hb1)
              | (go_simp
                 go_at_call 32
                 refine (HC.out.cpy _ (HBW.out.trans (Below.mono (by first | exact HL1 | exact ha _ _ HL1) HBW.out.size))).mono ?_
                 rintro e w2 ⟨⟨z1, z2, z3, z4, z5, z6, rfl⟩, hb2⟩
                 have HL2 := bel_go (by first | exact HL1 | exact ha _ _ HL1) hb2
                 first
                   | (have HZ2 := (hb2.block _ (lt_of_block HZ1)).trans HZ1
                      have HG2 : W6.heap.size ≤ W6.heap.size := Nat.le_refl _)
                   | (have HZ2 := zero_new hb2
                      have HG2 : W6.heap.size ≤ w1.heap.size := HL1.size)
                   | skip
                 clear hb2))
          all_goals (
            try simp only [Exit.inBlock, Exit.then]
            go_wp2_with fail
            go_meet
            case rel => first
              | exact ⟨_, z1, z2, z3, z4, z5, z6, rfl, Lib.hid HG2, Lib.hid (fin_blk z1 z2 z3 z4 z5 z6 HZ2), Lib.hid (setCells_bel HG2 _ _ _ HL2)⟩
              | exact ⟨_, z1, z2, z3, z4, z5, z6, rfl, Lib.hid HL2.size, Lib.hid (fin_new z1 z2 z3 z4 z5 z6), Lib.hid (ha _ _ HL2)⟩)
        case rest =>
        obtain ⟨nb, z1, z2, z3, z4, z5, z6, rfl, HNB, HBN, HLN⟩ := hcut
        clear r0 r1 r2 r3 r4 r5 r6 ha HD HD0
        have n12 : wc.cell? ⟨nb, 12, none⟩ = some (.int .i64 0) := (cell_of_row _ _ 12 _ _ _ HBN.out).trans rfl
        have nf : wc.frozen? ⟨nb, 12, none⟩ = false := frozen_of_row _ _ _ _ _ HBN.out
        have HS1 : Hid ((wc.setCell ⟨nb, 12, none⟩ (.int .i64 0)).heap[nb]? = some (.cells #[.int .i64 (-1), .int .i64 (-1), .int .i64 (-1), .int .i64 (-1), .int .i64 (-1), .int .i64 (-1), .int .i64 0, .slice z1 0 z2, .slice z3 0 z4, .slice z5 0 z6, .int .i64 0, .int .i64 (-1), .int .i64 0, .int .i64 0, .string ⟨#[]⟩] 63 (0, 0))) := Lib.hid (heap_setCell_same wc nb 12 _ _ (.int .i64 0) HBN.out)
        have HS2 : Hid (Below W6.heap.size W6 (wc.setCell ⟨nb, 12, none⟩ (.int .i64 0))) := Lib.hid (HLN.out.setCell (by exact HNB.out) _)
        go_upto_region 27 with fail
        generalize wc.setCell ⟨nb, 12, none⟩ (.int .i64 0) = W8 at HS1 HS2 ⊢
        have HIN : Hid ((Tryz.prog.info? 63).map (·.size) = some 15) := Lib.hid (by kernel_rfl)
        obtain ⟨i4, hi4, hz0, hz1, hz2⟩ := info_parts infoNext
        have HI := Lib.hid (And.intro hi4 (And.intro hz0 (And.intro hz1 hz2)))
        have HO8 : Hid (W8.ownsRow W5.heap.size 63 15 v 0 xs) := Lib.hid (owns_below HO7.out HS2.out)
        have HR8 : Hid (Below W5.heap.size W5 W8) := Lib.hid (HR7.out.trans (HS2.out.mono HR7.out.size))
        have hxs : xs = [] := List.eq_nil_of_length_eq_zero (by have := HO8.out.1; omega)
        subst hxs
        clear n12 nf HBN HNB HLN HO7 HR7 HX7 HBX HB7 HT hi4 hz0 hz1 hz2 HBW HQ
        go_wp2_with (first
          | refine wpList_load_row rfl _ _ rfl _ rfl _ #[.int .i64 (-1), .int .i64 (-1), .int .i64 (-1), .int .i64 (-1), .int .i64 (-1), .int .i64 (-1), .int .i64 0, .slice z1 0 z2, .slice z3 0 z4, .slice z5 0 z6, .int .i64 0, .int .i64 (-1), .int .i64 0, .int .i64 0, .string ⟨#[]⟩] _ _ HS1.out Tryz.underlying63 rfl HIN.out ?_
          | (at_builtin; refine wpList_append_own _ rfl _ _ 57 rfl W5.heap.size 63 i4 (.agg nZ) 15 176 Tryz.underlying57 HI.out.1 HI.out.2.1 HI.out.2.2.1 HI.out.2.2.2 rfl (by decide) v 0 [] rfl (HO8.out.alloc _) ⟨W8.heap.size, 0, none⟩ 1 1 [.int .i64 (-1), .int .i64 (-1), .int .i64 (-1), .int .i64 (-1), .int .i64 (-1), .int .i64 (-1), .int .i64 0, .slice z1 0 z2, .slice z3 0 z4, .slice z5 0 z6, .int .i64 0, .int .i64 (-1), .int .i64 0, .int .i64 0, .string ⟨#[]⟩] rfl rfl (news_new _ _ _) (ones_mem rfl) (by unfold maxLen; omega) (by omega) (by simp; have := HR8.out.size; omega) ?_))
        intro v1 w1 hown hgrow _
        have HON : Hid (w1.ownsRow W5.heap.size 63 15 v1 1 [.int .i64 (-1), .int .i64 (-1), .int .i64 (-1), .int .i64 (-1), .int .i64 (-1), .int .i64 (-1), .int .i64 0, .slice z1 0 z2, .slice z3 0 z4, .slice z5 0 z6, .int .i64 0, .int .i64 (-1), .int .i64 0, .int .i64 0, .string ⟨#[]⟩]) := Lib.hid hown
        have HRN : Hid (Below W5.heap.size W5 w1) := Lib.hid ((HR8.out.alloc HR8.out.size _).grown hgrow (by have := HR8.out.size; simp; omega) (fun k hk => (HO8.out.lt k hk).1))
        clear hown hgrow HS1 HS2 HO8 HR8 HI HIN
        go_wp2_with fail
        go_roundw
        case rel => exact ⟨1, _, _, by first | rfl | go_num, rfl, by omega, HON, Lib.hid (fun _ => rfl), HRN⟩
        case measure => simp [intOf]
end Go.Proofs.YtihkkjflfdbkkaaGreatDoor
