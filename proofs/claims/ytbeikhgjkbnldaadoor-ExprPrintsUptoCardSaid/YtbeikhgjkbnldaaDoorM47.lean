/- A text with numbers in it: the document's answer. -/
import Derived.Test.YtbeikhgjkbnldaaDoorM46
import Derived.Lib.AppendStr
import Derived.Lib.BufferRead
import Derived.Deep.RegionLaw
import Derived.Laws.AppendOwn
namespace Go.Proofs.YtbeikhgjkbnldaaDoor.doc
open Go.ChangeShapes Go.WideShapes Go.ChangeAt Go.RowKit
set_option linter.unusedVariables false
set_option linter.unusedSimpArgs false

theorem info_u8 : (Tryd.prog.info? 5).map (fun i => (i.zero, i.size, i.bytes)) = some (some (.int .u8 0), 1, 1) := by kernel_rfl
theorem info_parts {t : TypeId} {z : Value} {a b : Nat} (h : (Tryd.prog.info? t).map (fun i => (i.zero, i.size, i.bytes)) = some (some z, a, b)) : ∃ i, Tryd.prog.info? t = some i ∧ i.zero = some z ∧ i.size = a ∧ i.bytes = b := by
  cases hi : Tryd.prog.info? t with
  | none => rw [hi] at h; cases h
  | some i =>
    rw [hi] at h
    simp only [Option.map_some, Option.some.injEq, Prod.mk.injEq] at h
    exact ⟨i, rfl, h.1, h.2.1, h.2.2⟩
/-- append of a text's bytes, as one step of a region that draws. -/
theorem step_append_string {P : Program} {w : World} {ops : Array Oper} {o : Oper} {a : Act} {K : Act → World → Prop} {Q : Exit → Act → World → Prop} {E : Prop} (hgd : o.guard = none) (sl x : Operand) (t u : TypeId)
    (ho : o.op = .call { callee := .builtin .append, args := #[sl, x], argTypes := #[t, u] })
    (base : Nat) (e : TypeId) (i : TypeInfo) (ht : P.underlying t = some (.slice e)) (hu : P.underlying u = some .string) (hi : P.info? e = some i) (hz : i.zero = some (.int .u8 0))
    (hsize : i.size = 1) (hby : i.bytes = 1)
    (v : Value) (n : Nat) (xs : List Value) (hs : a.eval sl = v) (hown : w.ownsRow base e 1 v n xs) (s : ByteArray) (hx : a.eval x = .string s)
    (h63 : n + s.size ≤ maxLen) (hbytes : n + s.size ≤ 140737488355328) (hbase : base ≤ w.heap.size)
    (h : ∀ v' w', w'.ownsRow base e 1 v' (n + s.size) (xs ++ Lib.strCells s) → w.grownBy w' v.ownBlock → K (a.put o.dst v') w') :
    if Region.wanted o (yielded ops a.tmps) = true then Oper.wp P o a w K Q else E := by
  have hw : Region.wanted o (yielded ops a.tmps) = true := by simp [Region.wanted, hgd]
  rw [if_pos hw]
  obtain ⟨v', w', hr, h2, h3, h4⟩ := Lib.run_append_own_string (P := P) w base t u o.type e i ht hu hi hz hsize hby v n xs hown s h63 hbytes hbase
  unfold Oper.wp execOp
  simp only [ho, resolve, invoke, builtin, Sem.run_bind, Sem.run_pure, Result.andThen_ok, List.map_toArray, List.map_cons, List.map_nil, hs, hx, hr]
  exact h v' w' h2 h3
theorem own_below {w w' : World} {B n : Nat} {e : TypeId} {v : Value} {xs : List Value} (h : w.ownsRow B e 1 v n xs) (hb : Below w.heap.size w w') : w'.ownsRow B e 1 v n xs :=
  ⟨h.1, h.2.imp id fun ⟨g, cap, cur, e1, hb1, hg, r⟩ => ⟨g, cap, cur, e1, hb1, (hb.block g (lt_of_block hg)).trans hg, r⟩⟩

theorem printF_plain {c d : UInt8} {r : List UInt8} {a : List Int} (h : c ≠ 37) : printF (c :: d :: r) a = c :: printF (d :: r) a := by cases a <;> (rw [printF]; rw [if_pos h])
theorem printF_pc {r : List UInt8} {a : List Int} : printF (37 :: 37 :: r) a = 37 :: printF r a := by cases a <;> (rw [printF]; rw [if_neg (by simp), if_pos rfl])
theorem printF_no {d : UInt8} {r : List UInt8} {a : List Int} (h : d ≠ 37) (h2 : isConv d = false) : printF (37 :: d :: r) a = 37 :: d :: printF r a := by cases a <;> (rw [printF]; rw [if_neg (by simp), if_neg h, if_pos h2])
theorem printF_none {d : UInt8} {r : List UInt8} (h : d ≠ 37) (h2 : isConv d = true) : printF (37 :: d :: r) [] = printF r [] := by rw [printF]; rw [if_neg (by simp), if_neg h, if_neg (by simp [h2])]
theorem printF_some {d : UInt8} {r : List UInt8} {v : Int} {a : List Int} (h : d ≠ 37) (h2 : isConv d = true) : printF (37 :: d :: r) (v :: a) = convF d v ++ printF r a := by rw [printF]; rw [if_neg (by simp), if_neg h, if_neg (by simp [h2])]
theorem drop_at {s : ByteArray} {i : Nat} (h : i < s.size) : s.data.toList.drop i = s[i] :: s.data.toList.drop (i + 1) := by
  rw [List.drop_eq_getElem_cons (by simpa using h)]
  rfl
def inI (v : Int) : Prop := -9223372036854775808 ≤ v ∧ v ≤ 9223372036854775807
structure PrJ (w0 : World) (s : ByteArray) (args : List Int) (i : Nat) (l : List UInt8) (rest : List Int) (ov : Value) (W : World) : Prop where
  eq : l ++ printF (s.data.toList.drop i) rest = printF s.data.toList args
  own : W.ownsRow w0.heap.size 5 1 ov l.length (Lib.byteCells l)
  inl : ∀ v ∈ rest, inI v
  bel : Below w0.heap.size w0 W
theorem byte_one (l : List UInt8) : ∀ u ∈ Lib.byteCells l, u.oneCell' = true := by
  intro u hu
  simp only [Lib.byteCells, List.mem_map] at hu
  obtain ⟨z, -, rfl⟩ := hu
  rfl
theorem conv_own {w : World} {B : Nat} {v : Value} {l : List UInt8} (h : w.ownsRow B 5 1 v l.length (Lib.byteCells l)) : (convert 69 9 v).run Tryd.prog w = .ok (.string ⟨l.toArray⟩) w := by
  rcases h.2 with ⟨rfl, hl⟩ | ⟨g, cap, cur, rfl, hb, hg, hc, hm, hs, ht⟩
  · have : l = [] := List.eq_nil_of_length_eq_zero hl
    subst this
    exact Lib.run_convert_nil_bytes w _ _ 5 0 Tryd.underlying69 Tryd.underlying5 Tryd.underlying9
  · refine run_convert_bytes_back w _ _ 5 _ cap l Tryd.underlying69 Tryd.underlying5 Tryd.underlying9 (fun j hj => ?_)
    have h2 := h.cells (g := g) rfl j (.int .u8 (l[j].toNat : Int)) (by simp [Lib.byteCells, hj])
    exact h2
/-- Bytes are put behind. -/
theorem PrJ.put {w0 W W1 : World} {s : ByteArray} {args rest : List Int} {i i' : Nat} {l m : List UInt8} {ov ov' : Value} {o : Obj} (h : PrJ w0 s args i l rest ov W) (he : printF (s.data.toList.drop i) rest = m ++ printF (s.data.toList.drop i') rest) (hg : (W.alloc o).grownBy W1 ov.ownBlock) (ho : W1.ownsRow w0.heap.size 5 1 ov' (l.length + m.length) (Lib.byteCells l ++ Lib.byteCells m)) : PrJ w0 s args i' (l ++ m) rest ov' W1 := by
  refine ⟨by rw [List.append_assoc, ← he]; exact h.eq, by rw [List.length_append, cells_app]; exact ho, h.inl, (h.bel.alloc h.bel.size _).grown hg (by simp; have := h.bel.size; omega) (fun k hk => (h.own.lt k hk).1)⟩

theorem PrJ.on {w0 W W1 : World} {ov : Value} {B n : Nat} {xs : List Value} {o : Obj} (h : Below w0.heap.size w0 W) (hown : W.ownsRow w0.heap.size 5 1 ov n xs) (hg : (W.alloc o).grownBy W1 ov.ownBlock) : Below w0.heap.size W W1 :=
  ((Below.refl _ _).alloc h.size _).grown hg (by simp; have := h.size; omega) (fun k hk => (hown.lt k hk).1)
section
variable {s : ByteArray} {i : Nat} {rest : List Int}
theorem pf_plain (h : i < s.size) (hp : s[i] ≠ 37) : printF (s.data.toList.drop i) rest = [s[i]] ++ printF (s.data.toList.drop (i + 1)) rest := by
  rw [drop_at h]
  cases hd : s.data.toList.drop (i + 1) with
  | nil => simp [printF]
  | cons d r => rw [printF_plain hp]; rfl
theorem pf_last (h : i < s.size) (hp : i + 1 = s.size) : printF (s.data.toList.drop i) rest = [s[i]] ++ printF (s.data.toList.drop (i + 1)) rest := by
  rw [drop_at h, List.drop_eq_nil_of_le (i := i + 1) (by simp; omega)]
  simp [printF]
theorem drop_two (h : i + 1 < s.size) (hp : s[i] = 37) : s.data.toList.drop i = 37 :: s[i + 1] :: s.data.toList.drop (i + 2) := by
  rw [drop_at (by omega), drop_at h, hp]
theorem pf_pc (h : i + 1 < s.size) (hp : s[i] = 37) (hd : s[i + 1] = 37) : printF (s.data.toList.drop i) rest = [37] ++ printF (s.data.toList.drop (i + 2)) rest := by
  rw [drop_two h hp, hd, printF_pc]; rfl
theorem pf_no (h : i + 1 < s.size) (hp : s[i] = 37) (hd : s[i + 1] ≠ 37) (hn : isConv s[i + 1] = false) : printF (s.data.toList.drop i) rest = [37, s[i + 1]] ++ printF (s.data.toList.drop (i + 2)) rest := by
  rw [drop_two h hp, printF_no hd hn]; rfl
theorem pf_none (h : i + 1 < s.size) (hp : s[i] = 37) (hd : s[i + 1] ≠ 37) (hn : isConv s[i + 1] = true) : printF (s.data.toList.drop i) [] = printF (s.data.toList.drop (i + 2)) [] := by
  rw [drop_two h hp, printF_none hd hn]
theorem pf_some {v : Int} {a : List Int} (h : i + 1 < s.size) (hp : s[i] = 37) (hd : s[i + 1] ≠ 37) (hn : isConv s[i + 1] = true) : printF (s.data.toList.drop i) (v :: a) = convF s[i + 1] v ++ printF (s.data.toList.drop (i + 2)) a := by
  rw [drop_two h hp, printF_some hd hn]
end
theorem one_at (W : World) (c : Value) : ∀ j u', [c][j]? = some u' → (W.alloc (.cells #[c] 5)).cell? ((⟨W.heap.size, 0, none⟩ : Addr).add j) = some u' := by
  intro j u' hj
  match j, hj with
  | 0, hj => simp at hj; subst hj; exact (cell_of_row _ _ 0 _ _ _ (heap_alloc_new W _)).trans rfl
  | j + 1, hj => simp at hj
theorem two_at (W : World) (c d : Value) : ∀ j u', [c, d][j]? = some u' → (W.alloc (.cells #[c, d] 5)).cell? ((⟨W.heap.size, 0, none⟩ : Addr).add j) = some u' := by
  intro j u' hj
  match j, hj with
  | 0, hj => simp at hj; subst hj; exact (cell_of_row _ _ 0 _ _ _ (heap_alloc_new W _)).trans rfl
  | 1, hj => simp at hj; subst hj; exact (cell_of_row _ _ 1 _ _ _ (heap_alloc_new W _)).trans rfl
  | j + 2, hj => simp at hj
theorem ne37 {c : UInt8} (h : c ≠ 37) : ((c.toNat : Int) != 37) = true ∧ ((c.toNat : Int) == 37) = false := by
  have h2 : (c.toNat : Int) ≠ 37 := fun e => h (UInt8.toNat_inj.1 (by show c.toNat = 37; omega))
  exact ⟨by rw [bne_iff_ne]; exact h2, by rw [beq_eq_false_iff_ne]; exact h2⟩
theorem eq37 {c : UInt8} (h : c = 37) : ((c.toNat : Int) != 37) = false ∧ ((c.toNat : Int) == 37) = true := by
  subst h
  exact ⟨rfl, rfl⟩


theorem not_conv {d : UInt8} (h : isConv d = false) : ((d.toNat : Int) == 100) = false ∧ ((d.toNat : Int) == 105) = false ∧ ((d.toNat : Int) == 101) = false ∧ ((d.toNat : Int) == 117) = false ∧ ((d.toNat : Int) == 120) = false ∧ ((d.toNat : Int) == 111) = false ∧ ((d.toNat : Int) == 99) = false := by
  unfold isConv at h
  simp only [Bool.or_eq_false_iff, decide_eq_false_iff_not] at h
  obtain ⟨⟨⟨⟨⟨⟨h1, h2⟩, h3⟩, h4⟩, h5⟩, h6⟩, h7⟩ := h
  have key : ∀ (n : UInt8), d ≠ n → ((d.toNat : Int) == (n.toNat : Int)) = false := fun n hn => by
    rw [beq_eq_false_iff_ne]
    intro e
    exact hn (UInt8.toNat_inj.1 (by omega))
  exact ⟨key 100 h1, key 105 h2, key 101 h3, key 117 h4, key 120 h5, key 111 h6, key 99 h7⟩
theorem conv_room {w W W2 : World} {s : ByteArray} {args rest : List Int} {i : Nat} {l m : List UInt8} {ov : Value} (h : PrJ w s args i l rest ov W) (hl : l.length ≤ 65 * i) (hs : s.size ≤ 1099511627776) (hi : i < s.size) (hm : m.length ≤ 65) (hb : Below W.drew.heap.size W.drew W2) :
    W2.ownsRow w.heap.size 5 1 ov l.length (Lib.byteCells l) ∧ l.length + (⟨m.toArray⟩ : ByteArray).size ≤ maxLen ∧ l.length + (⟨m.toArray⟩ : ByteArray).size ≤ 140737488355328 ∧ w.heap.size ≤ W2.heap.size := by
  have e : (⟨m.toArray⟩ : ByteArray).size = m.length := by show m.toArray.size = _; simp
  have hb2 : Below W.heap.size W W2 := (Below.refl _ _).drew.trans hb
  rw [e]
  refine ⟨own_below h.own hb2, by unfold maxLen; omega, by omega, Nat.le_trans h.bel.size hb2.size⟩
theorem conv_put {w W W2 W3 : World} {s : ByteArray} {args rest rest' : List Int} {i : Nat} {l m : List UInt8} {ov v1 : Value} (h : PrJ w s args i l rest ov W) (he : printF (s.data.toList.drop i) rest = m ++ printF (s.data.toList.drop (i + 2)) rest') (hin : ∀ x ∈ rest', inI x) (hb : Below W.drew.heap.size W.drew W2)
    (ho : W3.ownsRow w.heap.size 5 1 v1 (l.length + (⟨m.toArray⟩ : ByteArray).size) (Lib.byteCells l ++ Lib.strCells ⟨m.toArray⟩)) (hg : W2.grownBy W3 ov.ownBlock) : PrJ w s args (i + 2) (l ++ m) rest' v1 W3 := by
  have e : (⟨m.toArray⟩ : ByteArray).size = m.length := by show m.toArray.size = _; simp
  have e2 : Lib.strCells ⟨m.toArray⟩ = Lib.byteCells m := by unfold Lib.strCells Lib.byteCells; simp
  have hb2 : Below W.heap.size W W2 := (Below.refl _ _).drew.trans hb
  rw [e, e2] at ho
  refine ⟨by rw [List.append_assoc, ← he]; exact h.eq, by rw [List.length_append, cells_app]; exact ho, hin, ?_⟩
  exact (h.bel.trans (hb2.mono h.bel.size)).grown hg (Nat.le_trans h.bel.size hb2.size) (fun k hk => (h.own.lt k hk).1)

set_option maxHeartbeats 4000000 in
set_option maxRecDepth 100000 in
theorem printR {B : Nat} (s : ByteArray) (args : List Int) (o : Option Addr) (c : Nat) (w : World) (hB : B ≤ w.heap.size) (hr : Row B o 1 (intAt w) args) (hin : ∀ v ∈ args, inI v) (hs : s.size ≤ 1099511627776) :
    Calls Tryd.prog 7 #[.string s, .slice o args.length c] w fun e w' => e = .returned (.string ⟨(printF s.data.toList args).toArray⟩) ∧ Below w.heap.size w w' := by
  have HBB := Lib.hid hB
  have HR0 := Lib.hid hr
  have hal : args.length ≤ 140737488355328 := hr.1
  have HJ0 : Hid (PrJ w s args 0 [] (args.drop 0) (.slice none 0 0) w) := Lib.hid ⟨rfl, World.ownsRow_nil _ _ _ _, hin, Below.refl _ _⟩
  obtain ⟨i0, hi, hz0, hz1, hz2⟩ := info_parts info_u8
  have HI := Lib.hid (And.intro hi (And.intro hz0 (And.intro hz1 hz2)))
  clear hi hz0 hz1 hz2 hr hin
  go_enter Tryd.func7, Tryd.ntmps7
  go_wp2_with fail
  go_loopw [5, 6, 7] (fun ov kv iv wr => ∃ (i k : Nat) (l : List UInt8), kv = .int .i64 k ∧ iv = .int .i64 i ∧ i ≤ s.size ∧ k ≤ args.length ∧ l.length ≤ 65 * i ∧ Hid (PrJ w s args i l (args.drop k) ov wr)) (fun _ _ i _ => s.size - (intOf i).toNat)
  case atStart => exact ⟨0, 0, [], rfl, rfl, by omega, by omega, by simp, HJ0⟩
  case round =>
    clear HJ0
    obtain ⟨i, k, l, rfl, rfl, hi, hk, hll, HJ⟩ := hrel
    have hi0 : (0 : Int) ≤ i := by omega
    by_cases hlt : i < s.size
    · have hlti : (i : Int) < s.size := by omega
      by_cases hpc : s[i] = 37
      · obtain ⟨n1, n2⟩ := eq37 hpc
        have HPC := Lib.hid hpc
        clear hpc
        by_cases hend : i + 1 = s.size
        · have he : ((i : Int) + 1 == (s.size : Int)) = true := by rw [beq_iff_eq]; omega
          go_wp2_with (at_builtin; refine wpList_append_own _ rfl _ _ 69 rfl w.heap.size 5 i0 (.int .u8 0) 1 1 Tryd.underlying69 HI.out.1 HI.out.2.1 HI.out.2.2.1 HI.out.2.2.2 rfl (by decide) u5 l.length (Lib.byteCells l) rfl (HJ.out.own.alloc _) ⟨wr.heap.size, 0, none⟩ 1 1 (Lib.byteCells [s[i]]) rfl rfl (one_at _ _) (byte_one [s[i]]) (by unfold maxLen; omega) (by omega) (by simp; have := HJ.out.bel.size; omega) ?_)
          intro v1 w1 hown1 hgrow _
          have HJ1 : Hid (PrJ w s args (i + 1) (l ++ [s[i]]) (args.drop k) v1 w1) := Lib.hid (HJ.out.put (pf_last hlt hend) hgrow hown1)
          clear hown1 hgrow
          go_wp2_with fail
          go_roundw
          case rel => exact ⟨i + 1, k, l ++ [s[i]], by go_num, by go_num, by omega, by omega, by simp; omega, HJ1⟩
          case measure => simp [intOf]; omega
        · have he : ((i : Int) + 1 == (s.size : Int)) = false := by rw [beq_eq_false_iff_ne]; omega
          have hi1 : i + 1 < s.size := by omega
          have hi1i : (i : Int) + 1 < s.size := by omega
          have hi10 : (0 : Int) ≤ (i : Int) + 1 := by omega
          have hi1n : ((i : Int) + 1).toNat = i + 1 := by omega
          obtain ⟨d, hd⟩ : ∃ d, s[i + 1] = d := ⟨_, rfl⟩
          by_cases hd37 : d = 37
          · obtain ⟨m1, m2⟩ := eq37 hd37
            have HD := Lib.hid (hd.trans hd37)
            clear hd37
            go_wp2_with (at_builtin; refine wpList_append_own _ rfl _ _ 69 rfl w.heap.size 5 i0 (.int .u8 0) 1 1 Tryd.underlying69 HI.out.1 HI.out.2.1 HI.out.2.2.1 HI.out.2.2.2 rfl (by decide) u5 l.length (Lib.byteCells l) rfl (HJ.out.own.alloc _) ⟨wr.heap.size, 0, none⟩ 1 1 (Lib.byteCells [37]) rfl rfl (one_at _ _) (byte_one [37]) (by unfold maxLen; omega) (by omega) (by simp; have := HJ.out.bel.size; omega) ?_)
            intro v1 w1 hown1 hgrow _
            have HJ1 : Hid (PrJ w s args (i + 2) (l ++ [37]) (args.drop k) v1 w1) := Lib.hid (HJ.out.put (pf_pc hi1 HPC.out HD.out) hgrow hown1)
            clear hown1 hgrow
            go_wp2_with fail
            go_roundw
            case rel => exact ⟨i + 2, k, l ++ [37], by go_num, by go_num, by omega, by omega, by simp; omega, HJ1⟩
            case measure => simp [intOf]; omega
          · obtain ⟨m1, m2⟩ := ne37 hd37
            have HD := Lib.hid (show s[i + 1] ≠ 37 by rw [hd]; exact hd37)
            clear hd37
            by_cases hcv : isConv d = true
            · have HCV := Lib.hid (show isConv s[i + 1] = true by rw [hd]; exact hcv)
              by_cases hka : k < args.length
              · have hkai : (k : Int) < args.length := by omega
                have hk0 : (0 : Int) ≤ k := by omega
                have HDR : Hid (args.drop k = args[k] :: args.drop (k + 1)) := Lib.hid (List.drop_eq_getElem_cons hka)
                obtain ⟨g, off, hro, hg, hv⟩ := HR0.out.cell hka
                subst hro
                obtain ⟨v, hvv⟩ : ∃ v, args[k] = v := ⟨_, rfl⟩
                rw [hvv] at hv HDR
                have hgw : g < w.heap.size := Nat.lt_of_lt_of_le hg HBB.out
                have hv0 : wr.cell? ⟨g, off + k, none⟩ = some (.int .i64 v) := by
                  unfold intAt at hv
                  rw [show off + k * 1 = off + k from by omega] at hv
                  exact (HJ.out.bel.cell (p := ⟨g, off + k, none⟩) hgw).trans hv
                have HIN := Lib.hid (HJ.out.inl v (by rw [HDR.out]; simp))
                have HLN := Lib.hid (conv_len (c := d) HIN.out)
                have HEQ : Hid (printF (s.data.toList.drop i) (args.drop k) = convF d v ++ printF (s.data.toList.drop (i + 2)) (args.drop (k + 1))) := Lib.hid (by rw [HDR.out, pf_some hi1 HPC.out HD.out HCV.out, hd])
                have HINL : Hid (∀ x ∈ args.drop (k + 1), inI x) := Lib.hid fun x hx => HJ.out.inl x (by rw [HDR.out]; simp [hx])
                clear hv hg hgw hvv
                rcases conv_cases' hcv with rfl | rfl | rfl | rfl | rfl | rfl | rfl
                · have HCC : Hid (∀ W, Calls Tryd.prog 15 #[.int .u8 100, .int .i64 v] W fun e w' => e = .returned (.string ⟨(convF 100 v).toArray⟩) ∧ Below W.heap.size W w') := Lib.hid fun W => shown_100 v HIN.out W
                  clear hcv
                  go_wp2_with fail
                  go_region_law (first
                    | (refine step_append_string rfl _ _ 69 9 rfl w.heap.size 5 i0 Tryd.underlying69 Tryd.underlying9 HI.out.1 HI.out.2.1 HI.out.2.2.1 HI.out.2.2.2 u5 l.length (Lib.byteCells l) rfl HOW.out.1 ⟨(convF 100 v).toArray⟩ rfl HOW.out.2.1 HOW.out.2.2.1 HOW.out.2.2.2 ?_
                       intro v1 w3 hown3 hgrow3)
                    | (go_simp
                       go_at_call 15
                       refine (HCC.out _).mono ?_
                       rintro e w2 ⟨rfl, hb2⟩
                       have HB2 := Lib.hid hb2
                       clear hb2
                       have HOW : Hid (w2.ownsRow w.heap.size 5 1 u5 l.length (Lib.byteCells l) ∧ l.length + (⟨(convF 100 v).toArray⟩ : ByteArray).size ≤ maxLen ∧ l.length + (⟨(convF 100 v).toArray⟩ : ByteArray).size ≤ 140737488355328 ∧ w.heap.size ≤ w2.heap.size) := Lib.hid (conv_room HJ.out hll hs hlt HLN.out HB2.out)))
                  all_goals (
                    have HJ1 : Hid (PrJ w s args (i + 2) (l ++ convF 100 v) (args.drop (k + 1)) v1 w3) := Lib.hid (conv_put HJ.out HEQ.out HINL.out HB2.out hown3 hgrow3)
                    have HL1 : Hid ((l ++ convF 100 v).length ≤ 65 * (i + 2)) := Lib.hid (by have := HLN.out; rw [List.length_append]; omega)
                    clear hown3 hgrow3 HB2 HCC
                    go_wp2_with fail
                    go_roundw
                    case rel => exact ⟨i + 2, k + 1, l ++ convF 100 v, by go_num, by go_num, by omega, by omega, HL1.out, HJ1⟩
                    case measure => simp [intOf]; omega)
                · have HCC : Hid (∀ W, Calls Tryd.prog 15 #[.int .u8 105, .int .i64 v] W fun e w' => e = .returned (.string ⟨(convF 105 v).toArray⟩) ∧ Below W.heap.size W w') := Lib.hid fun W => shown_105 v HIN.out W
                  clear hcv
                  go_wp2_with fail
                  go_region_law (first
                    | (refine step_append_string rfl _ _ 69 9 rfl w.heap.size 5 i0 Tryd.underlying69 Tryd.underlying9 HI.out.1 HI.out.2.1 HI.out.2.2.1 HI.out.2.2.2 u5 l.length (Lib.byteCells l) rfl HOW.out.1 ⟨(convF 105 v).toArray⟩ rfl HOW.out.2.1 HOW.out.2.2.1 HOW.out.2.2.2 ?_
                       intro v1 w3 hown3 hgrow3)
                    | (go_simp
                       go_at_call 15
                       refine (HCC.out _).mono ?_
                       rintro e w2 ⟨rfl, hb2⟩
                       have HB2 := Lib.hid hb2
                       clear hb2
                       have HOW : Hid (w2.ownsRow w.heap.size 5 1 u5 l.length (Lib.byteCells l) ∧ l.length + (⟨(convF 105 v).toArray⟩ : ByteArray).size ≤ maxLen ∧ l.length + (⟨(convF 105 v).toArray⟩ : ByteArray).size ≤ 140737488355328 ∧ w.heap.size ≤ w2.heap.size) := Lib.hid (conv_room HJ.out hll hs hlt HLN.out HB2.out)))
                  all_goals (
                    have HJ1 : Hid (PrJ w s args (i + 2) (l ++ convF 105 v) (args.drop (k + 1)) v1 w3) := Lib.hid (conv_put HJ.out HEQ.out HINL.out HB2.out hown3 hgrow3)
                    have HL1 : Hid ((l ++ convF 105 v).length ≤ 65 * (i + 2)) := Lib.hid (by have := HLN.out; rw [List.length_append]; omega)
                    clear hown3 hgrow3 HB2 HCC
                    go_wp2_with fail
                    go_roundw
                    case rel => exact ⟨i + 2, k + 1, l ++ convF 105 v, by go_num, by go_num, by omega, by omega, HL1.out, HJ1⟩
                    case measure => simp [intOf]; omega)
                · have HCC : Hid (∀ W, Calls Tryd.prog 15 #[.int .u8 101, .int .i64 v] W fun e w' => e = .returned (.string ⟨(convF 101 v).toArray⟩) ∧ Below W.heap.size W w') := Lib.hid fun W => shown_101 v HIN.out W
                  clear hcv
                  go_wp2_with fail
                  go_region_law (first
                    | (refine step_append_string rfl _ _ 69 9 rfl w.heap.size 5 i0 Tryd.underlying69 Tryd.underlying9 HI.out.1 HI.out.2.1 HI.out.2.2.1 HI.out.2.2.2 u5 l.length (Lib.byteCells l) rfl HOW.out.1 ⟨(convF 101 v).toArray⟩ rfl HOW.out.2.1 HOW.out.2.2.1 HOW.out.2.2.2 ?_
                       intro v1 w3 hown3 hgrow3)
                    | (go_simp
                       go_at_call 15
                       refine (HCC.out _).mono ?_
                       rintro e w2 ⟨rfl, hb2⟩
                       have HB2 := Lib.hid hb2
                       clear hb2
                       have HOW : Hid (w2.ownsRow w.heap.size 5 1 u5 l.length (Lib.byteCells l) ∧ l.length + (⟨(convF 101 v).toArray⟩ : ByteArray).size ≤ maxLen ∧ l.length + (⟨(convF 101 v).toArray⟩ : ByteArray).size ≤ 140737488355328 ∧ w.heap.size ≤ w2.heap.size) := Lib.hid (conv_room HJ.out hll hs hlt HLN.out HB2.out)))
                  all_goals (
                    have HJ1 : Hid (PrJ w s args (i + 2) (l ++ convF 101 v) (args.drop (k + 1)) v1 w3) := Lib.hid (conv_put HJ.out HEQ.out HINL.out HB2.out hown3 hgrow3)
                    have HL1 : Hid ((l ++ convF 101 v).length ≤ 65 * (i + 2)) := Lib.hid (by have := HLN.out; rw [List.length_append]; omega)
                    clear hown3 hgrow3 HB2 HCC
                    go_wp2_with fail
                    go_roundw
                    case rel => exact ⟨i + 2, k + 1, l ++ convF 101 v, by go_num, by go_num, by omega, by omega, HL1.out, HJ1⟩
                    case measure => simp [intOf]; omega)
                · have HCC : Hid (∀ W, Calls Tryd.prog 15 #[.int .u8 117, .int .i64 v] W fun e w' => e = .returned (.string ⟨(convF 117 v).toArray⟩) ∧ Below W.heap.size W w') := Lib.hid fun W => shown_117 v HIN.out W
                  clear hcv
                  go_wp2_with fail
                  go_region_law (first
                    | (refine step_append_string rfl _ _ 69 9 rfl w.heap.size 5 i0 Tryd.underlying69 Tryd.underlying9 HI.out.1 HI.out.2.1 HI.out.2.2.1 HI.out.2.2.2 u5 l.length (Lib.byteCells l) rfl HOW.out.1 ⟨(convF 117 v).toArray⟩ rfl HOW.out.2.1 HOW.out.2.2.1 HOW.out.2.2.2 ?_
                       intro v1 w3 hown3 hgrow3)
                    | (go_simp
                       go_at_call 15
                       refine (HCC.out _).mono ?_
                       rintro e w2 ⟨rfl, hb2⟩
                       have HB2 := Lib.hid hb2
                       clear hb2
                       have HOW : Hid (w2.ownsRow w.heap.size 5 1 u5 l.length (Lib.byteCells l) ∧ l.length + (⟨(convF 117 v).toArray⟩ : ByteArray).size ≤ maxLen ∧ l.length + (⟨(convF 117 v).toArray⟩ : ByteArray).size ≤ 140737488355328 ∧ w.heap.size ≤ w2.heap.size) := Lib.hid (conv_room HJ.out hll hs hlt HLN.out HB2.out)))
                  all_goals (
                    have HJ1 : Hid (PrJ w s args (i + 2) (l ++ convF 117 v) (args.drop (k + 1)) v1 w3) := Lib.hid (conv_put HJ.out HEQ.out HINL.out HB2.out hown3 hgrow3)
                    have HL1 : Hid ((l ++ convF 117 v).length ≤ 65 * (i + 2)) := Lib.hid (by have := HLN.out; rw [List.length_append]; omega)
                    clear hown3 hgrow3 HB2 HCC
                    go_wp2_with fail
                    go_roundw
                    case rel => exact ⟨i + 2, k + 1, l ++ convF 117 v, by go_num, by go_num, by omega, by omega, HL1.out, HJ1⟩
                    case measure => simp [intOf]; omega)
                · have HCC : Hid (∀ W, Calls Tryd.prog 15 #[.int .u8 120, .int .i64 v] W fun e w' => e = .returned (.string ⟨(convF 120 v).toArray⟩) ∧ Below W.heap.size W w') := Lib.hid fun W => shown_120 v HIN.out W
                  clear hcv
                  go_wp2_with fail
                  go_region_law (first
                    | (refine step_append_string rfl _ _ 69 9 rfl w.heap.size 5 i0 Tryd.underlying69 Tryd.underlying9 HI.out.1 HI.out.2.1 HI.out.2.2.1 HI.out.2.2.2 u5 l.length (Lib.byteCells l) rfl HOW.out.1 ⟨(convF 120 v).toArray⟩ rfl HOW.out.2.1 HOW.out.2.2.1 HOW.out.2.2.2 ?_
                       intro v1 w3 hown3 hgrow3)
                    | (go_simp
                       go_at_call 15
                       refine (HCC.out _).mono ?_
                       rintro e w2 ⟨rfl, hb2⟩
                       have HB2 := Lib.hid hb2
                       clear hb2
                       have HOW : Hid (w2.ownsRow w.heap.size 5 1 u5 l.length (Lib.byteCells l) ∧ l.length + (⟨(convF 120 v).toArray⟩ : ByteArray).size ≤ maxLen ∧ l.length + (⟨(convF 120 v).toArray⟩ : ByteArray).size ≤ 140737488355328 ∧ w.heap.size ≤ w2.heap.size) := Lib.hid (conv_room HJ.out hll hs hlt HLN.out HB2.out)))
                  all_goals (
                    have HJ1 : Hid (PrJ w s args (i + 2) (l ++ convF 120 v) (args.drop (k + 1)) v1 w3) := Lib.hid (conv_put HJ.out HEQ.out HINL.out HB2.out hown3 hgrow3)
                    have HL1 : Hid ((l ++ convF 120 v).length ≤ 65 * (i + 2)) := Lib.hid (by have := HLN.out; rw [List.length_append]; omega)
                    clear hown3 hgrow3 HB2 HCC
                    go_wp2_with fail
                    go_roundw
                    case rel => exact ⟨i + 2, k + 1, l ++ convF 120 v, by go_num, by go_num, by omega, by omega, HL1.out, HJ1⟩
                    case measure => simp [intOf]; omega)
                · have HCC : Hid (∀ W, Calls Tryd.prog 15 #[.int .u8 111, .int .i64 v] W fun e w' => e = .returned (.string ⟨(convF 111 v).toArray⟩) ∧ Below W.heap.size W w') := Lib.hid fun W => shown_111 v HIN.out W
                  clear hcv
                  go_wp2_with fail
                  go_region_law (first
                    | (refine step_append_string rfl _ _ 69 9 rfl w.heap.size 5 i0 Tryd.underlying69 Tryd.underlying9 HI.out.1 HI.out.2.1 HI.out.2.2.1 HI.out.2.2.2 u5 l.length (Lib.byteCells l) rfl HOW.out.1 ⟨(convF 111 v).toArray⟩ rfl HOW.out.2.1 HOW.out.2.2.1 HOW.out.2.2.2 ?_
                       intro v1 w3 hown3 hgrow3)
                    | (go_simp
                       go_at_call 15
                       refine (HCC.out _).mono ?_
                       rintro e w2 ⟨rfl, hb2⟩
                       have HB2 := Lib.hid hb2
                       clear hb2
                       have HOW : Hid (w2.ownsRow w.heap.size 5 1 u5 l.length (Lib.byteCells l) ∧ l.length + (⟨(convF 111 v).toArray⟩ : ByteArray).size ≤ maxLen ∧ l.length + (⟨(convF 111 v).toArray⟩ : ByteArray).size ≤ 140737488355328 ∧ w.heap.size ≤ w2.heap.size) := Lib.hid (conv_room HJ.out hll hs hlt HLN.out HB2.out)))
                  all_goals (
                    have HJ1 : Hid (PrJ w s args (i + 2) (l ++ convF 111 v) (args.drop (k + 1)) v1 w3) := Lib.hid (conv_put HJ.out HEQ.out HINL.out HB2.out hown3 hgrow3)
                    have HL1 : Hid ((l ++ convF 111 v).length ≤ 65 * (i + 2)) := Lib.hid (by have := HLN.out; rw [List.length_append]; omega)
                    clear hown3 hgrow3 HB2 HCC
                    go_wp2_with fail
                    go_roundw
                    case rel => exact ⟨i + 2, k + 1, l ++ convF 111 v, by go_num, by go_num, by omega, by omega, HL1.out, HJ1⟩
                    case measure => simp [intOf]; omega)
                · have HCC : Hid (∀ W, Calls Tryd.prog 15 #[.int .u8 99, .int .i64 v] W fun e w' => e = .returned (.string ⟨(convF 99 v).toArray⟩) ∧ Below W.heap.size W w') := Lib.hid fun W => shown_99 v HIN.out W
                  clear hcv
                  go_wp2_with fail
                  go_region_law (first
                    | (refine step_append_string rfl _ _ 69 9 rfl w.heap.size 5 i0 Tryd.underlying69 Tryd.underlying9 HI.out.1 HI.out.2.1 HI.out.2.2.1 HI.out.2.2.2 u5 l.length (Lib.byteCells l) rfl HOW.out.1 ⟨(convF 99 v).toArray⟩ rfl HOW.out.2.1 HOW.out.2.2.1 HOW.out.2.2.2 ?_
                       intro v1 w3 hown3 hgrow3)
                    | (go_simp
                       go_at_call 15
                       refine (HCC.out _).mono ?_
                       rintro e w2 ⟨rfl, hb2⟩
                       have HB2 := Lib.hid hb2
                       clear hb2
                       have HOW : Hid (w2.ownsRow w.heap.size 5 1 u5 l.length (Lib.byteCells l) ∧ l.length + (⟨(convF 99 v).toArray⟩ : ByteArray).size ≤ maxLen ∧ l.length + (⟨(convF 99 v).toArray⟩ : ByteArray).size ≤ 140737488355328 ∧ w.heap.size ≤ w2.heap.size) := Lib.hid (conv_room HJ.out hll hs hlt HLN.out HB2.out)))
                  all_goals (
                    have HJ1 : Hid (PrJ w s args (i + 2) (l ++ convF 99 v) (args.drop (k + 1)) v1 w3) := Lib.hid (conv_put HJ.out HEQ.out HINL.out HB2.out hown3 hgrow3)
                    have HL1 : Hid ((l ++ convF 99 v).length ≤ 65 * (i + 2)) := Lib.hid (by have := HLN.out; rw [List.length_append]; omega)
                    clear hown3 hgrow3 HB2 HCC
                    go_wp2_with fail
                    go_roundw
                    case rel => exact ⟨i + 2, k + 1, l ++ convF 99 v, by go_num, by go_num, by omega, by omega, HL1.out, HJ1⟩
                    case measure => simp [intOf]; omega)
              · have hkai : ¬ (k : Int) < args.length := by omega
                have HJ1 : Hid (PrJ w s args (i + 2) l (args.drop k) u5 wr) := Lib.hid (by
                  have e : args.drop k = [] := List.drop_eq_nil_of_le (by omega)
                  have h1 := HJ.out.eq
                  rw [e, pf_none hi1 HPC.out HD.out HCV.out] at h1
                  exact ⟨by rw [e]; exact h1, HJ.out.own, HJ.out.inl, HJ.out.bel⟩)
                rcases conv_cases' hcv with rfl | rfl | rfl | rfl | rfl | rfl | rfl
                all_goals (
                  clear hcv
                  go_wp2_with fail
                  go_roundw
                  case rel => exact ⟨i + 2, k, l, by go_num, by go_num, by omega, by omega, by omega, HJ1⟩
                  case measure => simp [intOf]; omega)
            · have hcv' : isConv d = false := by simpa using hcv
              have HCV := Lib.hid (show isConv s[i + 1] = false by rw [hd]; exact hcv')
              obtain ⟨c1, c2, c3, c4, c5, c6, c7⟩ := not_conv hcv'
              clear hcv hcv'
              go_wp2_with (at_builtin; refine wpList_append_own _ rfl _ _ 69 rfl w.heap.size 5 i0 (.int .u8 0) 1 1 Tryd.underlying69 HI.out.1 HI.out.2.1 HI.out.2.2.1 HI.out.2.2.2 rfl (by decide) u5 l.length (Lib.byteCells l) rfl (HJ.out.own.alloc _) ⟨wr.heap.size, 0, none⟩ 2 2 (Lib.byteCells [37, d]) rfl rfl (two_at _ _ _) (byte_one [37, d]) (by unfold maxLen; omega) (by omega) (by simp; have := HJ.out.bel.size; omega) ?_)
              intro v1 w1 hown1 hgrow _
              have HJ1 : Hid (PrJ w s args (i + 2) (l ++ [37, d]) (args.drop k) v1 w1) := Lib.hid (HJ.out.put (by rw [← hd]; exact pf_no hi1 HPC.out HD.out HCV.out) hgrow hown1)
              clear hown1 hgrow
              go_wp2_with fail
              go_roundw
              case rel => exact ⟨i + 2, k, l ++ [37, d], by go_num, by go_num, by omega, by omega, by simp; omega, HJ1⟩
              case measure => simp [intOf]; omega
      · obtain ⟨n1, n2⟩ := ne37 hpc
        have HPC := Lib.hid hpc
        clear hpc
        go_wp2_with (at_builtin; refine wpList_append_own _ rfl _ _ 69 rfl w.heap.size 5 i0 (.int .u8 0) 1 1 Tryd.underlying69 HI.out.1 HI.out.2.1 HI.out.2.2.1 HI.out.2.2.2 rfl (by decide) u5 l.length (Lib.byteCells l) rfl (HJ.out.own.alloc _) ⟨wr.heap.size, 0, none⟩ 1 1 (Lib.byteCells [s[i]]) rfl rfl (one_at _ _) (byte_one [s[i]]) (by unfold maxLen; omega) (by omega) (by simp; have := HJ.out.bel.size; omega) ?_)
        intro v1 w1 hown1 hgrow _
        have HJ1 : Hid (PrJ w s args (i + 1) (l ++ [s[i]]) (args.drop k) v1 w1) := Lib.hid (HJ.out.put (pf_plain hlt HPC.out) hgrow hown1)
        clear hown1 hgrow
        go_wp2_with fail
        go_roundw
        case rel => exact ⟨i + 1, k, l ++ [s[i]], by go_num, by go_num, by omega, by omega, by simp; omega, HJ1⟩
        case measure => simp [intOf]; omega
    · have hlti : ¬ (i : Int) < s.size := by omega
      have hcv := conv_own HJ.out.own
      have HE : Hid (l = printF s.data.toList args) := Lib.hid (by
        have h1 := HJ.out.eq
        rw [List.drop_eq_nil_of_le (by simp; omega)] at h1
        simpa [printF] using h1)
      go_wp2_with fail
      go_ret
      exact ⟨by rw [HE.out]; rfl, HJ.out.bel⟩
end Go.Proofs.YtbeikhgjkbnldaaDoor.doc
