/- The law of a condition that does not hold, walked. -/
import Derived.Test.YtojneaffoekpnaaSkLaw
namespace Go.Proofs.Ytojneaffoekpnaa
open Go.ChangeShapes Go.WideShapes Go.ChangeAt Go.RowKit
set_option linter.unusedVariables false
set_option linter.unusedSimpArgs false

theorem row_sk (w : World) : Row w (w.alloc (.cells (cellsOf [tokS, tokI, tokN]).toArray 25)) (.slice (some ⟨w.heap.size, 0, none⟩) 3 3) [tokS, tokI, tokN] := by
  refine ⟨⟨rfl, .inr ⟨w.heap.size, 3, _, rfl, Nat.le_refl _, heap_alloc_new _ _, Nat.le_refl _, by decide, rfl, rfl⟩⟩, (Below.refl _ _).alloc (Nat.le_refl _) _⟩
theorem toks_two (w : World) (a b : TK) : Toks (w.alloc (.cells (cellsOf [a, b]).toArray 25)) w.heap.size 0 [a, b] := by
  have h := heap_alloc_new w (.cells (cellsOf [a, b]).toArray 25)
  refine ⟨lt_of_block h, fun i hi => ?_⟩
  have hi2 : i = 0 ∨ i = 1 := by simp at hi; omega
  rcases hi2 with rfl | rfl
  · exact ⟨(cell_of_row _ _ _ _ _ _ h).trans rfl, (cell_of_row _ _ _ _ _ _ h).trans rfl, (cell_of_row _ _ _ _ _ _ h).trans rfl, (cell_of_row _ _ _ _ _ _ h).trans rfl, (cell_of_row _ _ _ _ _ _ h).trans rfl⟩
  · exact ⟨(cell_of_row _ _ _ _ _ _ h).trans rfl, (cell_of_row _ _ _ _ _ _ h).trans rfl, (cell_of_row _ _ _ _ _ _ h).trans rfl, (cell_of_row _ _ _ _ _ _ h).trans rfl, (cell_of_row _ _ _ _ _ _ h).trans rfl⟩
theorem step_okK {body : List TK} {t : TK} {k : Nat} (h : ∀ j (h : j < body.length), j < k → okK body[j]) {hk : k < body.length} (ht : body[k] = t) (h1 : okK t) : ∀ j (h : j < body.length), j < k + 1 → okK body[j] := by
  intro j hj hjk
  by_cases e : j = k
  · subst e
    rw [ht]
    exact h1
  · exact h j hj (by omega)

theorem sk_nil (bo : Option Addr) (bn bc : Nat) (o : Option Addr) (cap : Nat) (w : World) : Calls Try.prog 4 #[.slice bo bn bc, .slice o 0 cap] w fun e w' => e = .returned (.bool true) ∧ Below w.heap.size w w' := by
  go_enter Try.func4, Try.ntmps4
  go_wp2_with fail
  refine (awake_any _).mono ?_
  rintro e w0 ⟨rfl, hb0⟩
  have HB0 := Lib.hid hb0
  clear hb0
  go_wp2_with fail
  refine (right_nil _ _ _).mono ?_
  rintro e w1 ⟨rfl, rfl⟩
  go_wp2_with fail
  go_ret
  exact ⟨rfl, HB0.out⟩

theorem wpList_append_two {ops : Array Oper} {rest : List Oper} {o : Oper} {a : Act} {Q : Exit → Act → World → Prop} {w : World} (hgd : o.guard = none) (s x : Operand)
    (ho : o.op = .call { callee := .builtin .append, args := #[s, x], argTypes := #[22, 22] })
    (base : Nat) (v : Value) (n : Nat) (xs : List Value) (hs : a.eval s = v) (hown : w.ownsRow base 25 5 v n xs) (sb : Nat) (t u : TK) (c : Nat) (hx : a.eval x = .slice (some ⟨sb, 0, none⟩) 2 c) (hb : Toks w sb 0 [t, u])
    (hn : n ≤ 19000) (hbase : base ≤ w.heap.size)
    (h : ∀ o' c' w', w'.ownsRow base 25 5 (.slice o' (n + 2) c') (n + 2) (xs ++ cellsOf [t, u]) → w.grownBy w' v.ownBlock → ((Value.slice o' (n + 2) c').ownBlock = v.ownBlock ∨ (Value.slice o' (n + 2) c').ownBlock = some w.heap.size) → wpList Try.prog ops Q rest (a.put o.dst (.slice o' (n + 2) c')) w') : wpList Try.prog ops Q (o :: rest) a w :=
  wpList_append_body hgd s x ho base v n xs hs hown (some ⟨sb, 0, none⟩) c [t, u] hx (.inr ⟨sb, 0, rfl, hb⟩) (fun h => by cases h) (by simp; omega) hbase h
theorem Row.push2 {w0 w w2 : World} {v v' : Value} {acc : List TK} (h : Row w0 w v acc) (t u : TK) (hg : w.grownBy w2 v.ownBlock) (hown : w2.ownsRow w0.heap.size 25 5 v' (acc.length + 2) (cellsOf acc ++ cellsOf [t, u])) : Row w0 w2 v' (acc ++ [t, u]) := by
  refine ⟨?_, h.bel.grown hg h.bel.size fun k hk => (h.own.lt k hk).1⟩
  rw [cellsOf_append, List.length_append]
  exact hown

set_option maxRecDepth 100000 in
set_option maxHeartbeats 4000000 in
theorem sk_some (bo : Option Addr) (bc : Nat) (body : List TK) (g off cap : Nat) (ts : List TK) (w : World) (hb : BodyAt w bo body) (ht : Toks w g off ts) (hm : ts.length ≤ maxLen) (hmb : body.length ≤ maxLen) (hz : 0 < ts.length) (hcap : ts.length ≤ cap) :
    Calls Try.prog 4 #[.slice bo body.length bc, .slice (some ⟨g, off, none⟩) ts.length cap] w fun e w' => e = .returned (.bool true) ∧ Below w.heap.size w w' := by
  have HT := Lib.hid ht
  have HBD := Lib.hid hb
  have hm2 : (ts.length : Int) ≤ 9223372036854775807 := by unfold maxLen at hm; omega
  have hm3 : (body.length : Int) ≤ 9223372036854775807 := by unfold maxLen at hmb; omega
  have HR := Lib.hid fun w' (hb : Below w.heap.size w w') => right_any g off cap ts w' hm hz (ht.below hb)
  clear ht hm hb hmb
  go_enter Try.func4, Try.ntmps4
  go_wp2_with fail
  refine (awake_any _).mono ?_
  rintro e w1 ⟨rfl, hb1⟩
  have HB1 := Lib.hid hb1
  have HT1 := Lib.hid (HT.out.below hb1)
  have HBD1 := Lib.hid (HBD.out.below hb1)
  have HR1 := Lib.hid (HR.out w1 hb1)
  clear hb1 HT HBD HR
  go_wp2_with fail
  refine HR1.out.mono ?_
  rintro e w1' ⟨⟨b, rfl, hb⟩, rfl⟩
  cases b with
  | false =>
    go_wp2_with fail
    go_ret
    exact ⟨rfl, HB1.out⟩
  | true =>
    have HG := Lib.hid (hb rfl)
    clear hb HR1
    by_cases h500 : (2000 : Int) < (ts.length : Int)
    · go_wp2_with fail
      go_ret
      exact ⟨rfl, HB1.out⟩
    · by_cases h15 : (2000 : Int) < (body.length : Int)
      · go_wp2_with fail
        go_ret
        exact ⟨rfl, HB1.out⟩
      · go_wp2_with fail
        have hR0 := row_sk w1'
        have hW0 : (w1'.alloc (.cells (cellsOf [tokS, tokI, tokN]).toArray 25)) = w1'.alloc (.cells #[.int .i64 4, .int .i64 0, .int .i64 1, .string ⟨#[35]⟩, .int .i64 0, .int .i64 1, .int .i64 0, .int .i64 1, .string ⟨#[105, 102]⟩, .int .i64 0, .int .i64 2, .int .i64 0, .int .i64 1, .string ⟨#[48]⟩, .int .i64 0] 25) := rfl
        rw [hW0] at hR0
        have HR0 := Lib.hid hR0
        clear hR0 hW0
        generalize w1'.alloc _ = W0 at HR0 ⊢
        have hgw : g < w1'.heap.size := HT1.out.1
        go_loopw [7, 8] (fun v i wr => ∃ (k : Nat) (o6 : Option Addr) (n6 c6 : Nat), i = .int .i64 k ∧ k ≤ body.length ∧ v = .slice o6 n6 c6 ∧ Hid (n6 = 3 + k) ∧ Hid (Row w1' wr v ([tokS, tokI, tokN] ++ (body.take k).map (lined 2))) ∧ Hid (∀ j (h : j < body.length), j < k → okK body[j])) (fun _ i _ => body.length - (intOf i).toNat)
        case atStart => exact ⟨0, _, _, _, rfl, by omega, rfl, Lib.hid rfl, by simpa using HR0, Lib.hid fun j h hj => by omega⟩
        case round =>
          obtain ⟨k, o6, n6, c6, rfl, hk, rfl, HN6, HRW, HOK⟩ := hrel
          by_cases hlt : k < body.length
          · obtain ⟨acc, hacc⟩ : ∃ acc, [tokS, tokI, tokN] ++ (body.take k).map (lined 2) = acc := ⟨_, rfl⟩
            rw [hacc] at HRW
            have HACC := Lib.hid hacc
            clear hacc
            obtain ⟨gb, ob, rfl, hTb⟩ : ∃ gb ob, bo = some ⟨gb, ob, none⟩ ∧ Toks w1' gb ob body := by
              rcases HBD1.out with h | h
              · omega
              · exact h
            have HTb := Lib.hid hTb
            obtain ⟨t, ht⟩ : ∃ t, body[k] = t := ⟨_, rfl⟩
            have HTK := Lib.hid ht
            have hgb := hTb.1
            have HCL := Lib.hid fun w' (hb : Below w1'.heap.size w1' w') => (show TkAt w' gb (ob + k * 5) t by have h := (hTb.below hb).2 k hlt; rwa [ht] at h)
            have HI1 := Lib.hid fun w' => is_any t ⟨#[35]⟩ w'
            have hlti : (k : Int) < body.length := by omega
            have hk0 : (0 : Int) ≤ k := by omega
            obtain ⟨c0, c1, c2, c3, c4⟩ := HCL.out wr HRW.out.bel
            clear ht hTb
            go_wp2_with fail
            refine (HI1.out _).mono ?_
            rintro e w6 ⟨rfl, hb6⟩
            have HR6 := Lib.hid (HRW.out.below hb6)
            obtain ⟨d0, d1, d2, d3, d4⟩ := HCL.out w6 HR6.out.bel
            clear hb6 c0 c1 c2 c3 c4 HRW HI1
            have hadd : IntKind.i64.wrap ((k : Int) + 1) = (k : Int) + 1 := IntWalk.i64_in _ (by omega)
            cases hm1 : isMk t ⟨#[35]⟩ with
            | true =>
              go_wp2_with fail
              go_ret
              exact ⟨rfl, HB1.out.trans (HR6.out.bel.mono HB1.out.size)⟩
            | false =>
              have HM1 := Lib.hid hm1
              clear hm1
              cases hk0' : (t.kind == 0) with
              | true =>
                go_wp2_with fail
                go_ret
                exact ⟨rfl, HB1.out.trans (HR6.out.bel.mono HB1.out.size)⟩
              | false =>
                have HK0 : Hid (t.kind ≠ 0) := Lib.hid (by rw [beq_eq_false_iff_ne] at hk0'; exact hk0')
                have HS6 := Lib.hid (HR6.out.alloc (.cells #[.int .i64 t.kind, .int .i64 t.pos, .int .i64 2, .string t.text, .int .i64 t.num] 25))
                have hown := (HS6.out.alloc (.cells #[.int .i64 t.kind, .int .i64 t.pos, .int .i64 2, .string t.text, .int .i64 t.num] 25)).own
                have hln : acc.length = n6 := by rw [← HACC.out, HN6.out]; simp; omega
                rw [hln] at hown
                have HOW := Lib.hid hown
                have HLN := Lib.hid hln
                have hsz : (w6.alloc (.cells #[.int .i64 t.kind, .int .i64 t.pos, .int .i64 2, .string t.text, .int .i64 t.num] 25)).heap.size = w6.heap.size + 1 := World.size_alloc _ _
                have HNC : Hid (∀ (j : Nat) (u : Value), (tkCells (lined 2 t))[j]? = some u → ((w6.alloc (.cells #[.int .i64 t.kind, .int .i64 t.pos, .int .i64 2, .string t.text, .int .i64 t.num] 25)).alloc (.cells #[.int .i64 t.kind, .int .i64 t.pos, .int .i64 2, .string t.text, .int .i64 t.num] 25)).cell? ((⟨w6.heap.size + 1, 0, none⟩ : Addr).add j) = some u) := Lib.hid fun j u hu => by
                  have h := new_cells (w6.alloc (.cells #[.int .i64 t.kind, .int .i64 t.pos, .int .i64 2, .string t.text, .int .i64 t.num] 25)) (lined 2 t) j u hu
                  rw [hsz] at h
                  exact h
                have HBS : Hid (w1'.heap.size ≤ ((w6.alloc (.cells #[.int .i64 t.kind, .int .i64 t.pos, .int .i64 2, .string t.text, .int .i64 t.num] 25)).alloc (.cells #[.int .i64 t.kind, .int .i64 t.pos, .int .i64 2, .string t.text, .int .i64 t.num] 25)).heap.size) := Lib.hid (HS6.out.alloc _).bel.size
                have hn6 : n6 ≤ 2003 := by have := HN6.out; omega
                clear hown hln hsz
                go_wp2_with (at_builtin; refine wpList_append_tok rfl _ _ rfl w1'.heap.size _ n6 _ rfl HOW.out (w6.heap.size + 1) (lined 2 t) 1 rfl HNC.out (by omega) HBS.out ?_)
                intro o7 c7 w7 hown2 hgrow2 _
                have HR7 : Hid (Row w1' w7 (.slice o7 (n6 + 1) c7) ([tokS, tokI, tokN] ++ (body.take (k + 1)).map (lined 2))) := Lib.hid (by
                  have h := (HS6.out.alloc _).push (lined 2 t) hgrow2 (by rw [HLN.out]; exact hown2)
                  rw [← HACC.out, List.append_assoc] at h
                  rw [List.take_succ_eq_append_getElem hlt, HTK.out, List.map_append]
                  exact h)
                clear hown2 hgrow2 HS6 HOW d0 d1 d2 d3 d4 HR6
                go_wp2_with fail
                go_roundw
                case rel => exact ⟨k + 1, _, _, _, by go_num, by omega, rfl, Lib.hid (by have := HN6.out; omega), HR7, Lib.hid (step_okK HOK.out HTK.out ⟨HM1.out, HK0.out⟩)⟩
                case measure => simp [intOf]; omega
          · obtain rfl : k = body.length := by omega
            have HDZ : Hid (Row w1' wr (.slice o6 n6 c6) ([tokS, tokI, tokN] ++ body.map (lined 2))) := Lib.hid (by have h := HRW.out; rw [List.take_length] at h; exact h)
            have HN0 : Hid (n6 = 3 + body.length) := HN6
            have HOB : Hid (∀ j (h : j < body.length), okK body[j]) := Lib.hid fun j h => HOK.out j h h
            clear HN6 HRW HOK
            obtain ⟨acc, hacc⟩ : ∃ acc, [tokS, tokI, tokN] ++ body.map (lined 2) = acc := ⟨_, rfl⟩
            rw [hacc] at HDZ
            have HACC := Lib.hid hacc
            have hal : acc.length = n6 := by rw [← hacc, HN0.out]; simp; omega
            have HAL := Lib.hid hal
            have hby := toks_two wr tokH tokE
            have hW1 : (wr.alloc (.cells (cellsOf [tokH, tokE]).toArray 25)) = wr.alloc (.cells #[.int .i64 4, .int .i64 0, .int .i64 3, .string ⟨#[35]⟩, .int .i64 0, .int .i64 1, .int .i64 0, .int .i64 3, .string ⟨#[101, 108, 115, 101]⟩, .int .i64 0] 25) := rfl
            rw [hW1] at hby
            have HBY := Lib.hid hby
            have how := (HDZ.out.alloc (.cells #[.int .i64 4, .int .i64 0, .int .i64 3, .string ⟨#[35]⟩, .int .i64 0, .int .i64 1, .int .i64 0, .int .i64 3, .string ⟨#[101, 108, 115, 101]⟩, .int .i64 0] 25)).own
            rw [hal] at how
            have HOW := Lib.hid how
            have HDA := Lib.hid (HDZ.out.alloc (.cells #[.int .i64 4, .int .i64 0, .int .i64 3, .string ⟨#[35]⟩, .int .i64 0, .int .i64 1, .int .i64 0, .int .i64 3, .string ⟨#[101, 108, 115, 101]⟩, .int .i64 0] 25))
            have hn6 : n6 ≤ 2003 := by have := HN0.out; omega
            clear hacc hal hby hW1 how
            go_wp2_with (at_builtin; refine wpList_append_two rfl _ _ rfl w1'.heap.size _ n6 _ rfl HOW.out wr.heap.size tokH tokE 2 rfl HBY.out (by omega) HDA.out.bel.size ?_)
            intro o7 c7 w7 hown2 hgrow2 _
            have HR7 : Hid (Row w1' w7 (.slice o7 (n6 + 2) c7) (preOf body)) := Lib.hid (by
              have h := HDA.out.push2 tokH tokE hgrow2 (by rw [HAL.out]; exact hown2)
              rw [← HACC.out] at h
              exact h)
            obtain ⟨pre, hpre⟩ : ∃ pre, preOf body = pre := ⟨_, rfl⟩
            rw [hpre] at HR7
            have HPRE := Lib.hid hpre
            have HPL : Hid (pre.length = 5 + body.length) := Lib.hid (by rw [← hpre]; simp [preOf]; omega)
            clear hown2 hgrow2 HDA HOW HBY HAL HACC HDZ hpre
            go_wp2_with fail
            go_loopw [7, 11, 12] (fun v6 v11 i wr => ∃ (k : Nat) (o6 : Option Addr) (n6 c6 : Nat) (o11 : Option Addr) (n11 c11 : Nat), i = .int .i64 k ∧ k ≤ ts.length ∧ v6 = .slice o6 n6 c6 ∧ v11 = .slice o11 n11 c11 ∧ Hid (n6 = (pre ++ tailOf (ts.take k)).length) ∧ Hid (n11 = k) ∧ Hid (Row w1' wr v6 (pre ++ tailOf (ts.take k))) ∧ Hid (Row w1' wr v11 ((ts.take k).map (lined 4))) ∧ Hid (v11.ownBlock = none ∨ v11.ownBlock ≠ v6.ownBlock) ∧ Hid (∀ j (h : j < ts.length), j < k → isMk ts[j] ⟨#[35]⟩ = false)) (fun _ _ i _ => ts.length - (intOf i).toNat)
            case atStart => exact ⟨0, _, _, _, none, 0, 0, rfl, by omega, rfl, rfl, Lib.hid (by rw [List.length_append, HPL.out]; simp [tailOf]; have := HN0.out; omega), Lib.hid rfl, by simpa [tailOf] using HR7, Lib.hid ⟨World.ownsRow_nil _ _ _ _, HR7.out.bel⟩, Lib.hid (.inl rfl), Lib.hid fun j h hj => by omega⟩
            case round =>
              obtain ⟨k, o6, n6, c6, o11, n11, c11, rfl, hk, rfl, rfl, HN6, HN11, HRD, HRP, HNE, HMK⟩ := hrel
              obtain ⟨accD, haccD⟩ : ∃ acc, pre ++ tailOf (ts.take k) = acc := ⟨_, rfl⟩
              rw [haccD] at HRD HN6
              have HACD := Lib.hid haccD
              obtain ⟨accP, haccP⟩ : ∃ acc, (ts.take k).map (lined 4) = acc := ⟨_, rfl⟩
              rw [haccP] at HRP
              have HACP := Lib.hid haccP
              have hlP : accP.length = n11 := by rw [← haccP, HN11.out]; simp; omega
              have HLP := Lib.hid hlP
              have hlD : accD.length = n6 := HN6.out.symm
              have HLD := Lib.hid hlD
              have hn6 : n6 ≤ 8005 := by
                have h1 := tailOf_le (ts.take k)
                have h2 := HN6.out
                rw [← haccD, List.length_append, HPL.out] at h2
                simp at h1
                omega
              have hn11 : n11 ≤ 2000 := by have := HN11.out; omega
              clear haccD haccP hlP hlD
              by_cases hlt : k < ts.length
              · obtain ⟨t, ht⟩ : ∃ t, ts[k] = t := ⟨_, rfl⟩
                have HTK := Lib.hid ht
                have HCL := Lib.hid fun w' (hb : Below w1'.heap.size w1' w') => (show TkAt w' g (off + k * 5) t by have h := (HT1.out.below hb).2 k hlt; rwa [ht] at h)
                have HI3 := Lib.hid fun w' => is_any t ⟨#[35]⟩ w'
                have hlti : (k : Int) < ts.length := by omega
                have hk0 : (0 : Int) ≤ k := by omega
                obtain ⟨c0, c1, c2, c3, c4⟩ := HCL.out wr HRD.out.bel
                clear ht
                go_wp2_with fail
                refine (HI3.out _).mono ?_
                rintro e w5 ⟨rfl, hb5⟩
                have HRD5 := Lib.hid (HRD.out.below hb5)
                have HRP5 := Lib.hid (HRP.out.below hb5)
                obtain ⟨d0, d1, d2, d3, d4⟩ := HCL.out w5 HRD5.out.bel
                have hbD : ∀ gg, (Value.slice o6 n6 c6).ownBlock = some gg → gg < w5.heap.size := fun gg h => (HRD5.out.own.lt gg h).2
                have hbP : ∀ gg, (Value.slice o11 n11 c11).ownBlock = some gg → gg < w5.heap.size := fun gg h => (HRP5.out.own.lt gg h).2
                have HBD2 := Lib.hid hbD
                have HBP2 := Lib.hid hbP
                clear hb5 c0 c1 c2 c3 c4 HRD HRP HI3 hbD hbP
                cases hm1 : isMk t ⟨#[35]⟩ with
                | true =>
                  go_wp2_with fail
                  go_ret
                  exact ⟨rfl, HB1.out.trans (HRD5.out.bel.mono HB1.out.size)⟩
                | false =>
                  have HM1 := Lib.hid hm1
                  clear hm1
                  have hsz : (w5.alloc (.cells #[.int .i64 t.kind, .int .i64 t.pos, .int .i64 4, .string t.text, .int .i64 t.num] 25)).heap.size = w5.heap.size + 1 := World.size_alloc _ _
                  have hBX5 := heap_alloc_new w5 (.cells #[.int .i64 t.kind, .int .i64 t.pos, .int .i64 4, .string t.text, .int .i64 t.num] 25)
                  have hsz6 : ((w5.alloc (.cells #[.int .i64 t.kind, .int .i64 t.pos, .int .i64 4, .string t.text, .int .i64 t.num] 25)).alloc (.cells #[.int .i64 t.kind, .int .i64 t.pos, .int .i64 4, .string t.text, .int .i64 t.num] 25)).heap.size = w5.heap.size + 1 + 1 := by rw [World.size_alloc, hsz]
                  have HSZ6 := Lib.hid hsz6
                  have HRD6 := Lib.hid ((HRD5.out.alloc (.cells #[.int .i64 t.kind, .int .i64 t.pos, .int .i64 4, .string t.text, .int .i64 t.num] 25)).alloc (.cells #[.int .i64 t.kind, .int .i64 t.pos, .int .i64 4, .string t.text, .int .i64 t.num] 25))
                  have HRP6 := Lib.hid ((HRP5.out.alloc (.cells #[.int .i64 t.kind, .int .i64 t.pos, .int .i64 4, .string t.text, .int .i64 t.num] 25)).alloc (.cells #[.int .i64 t.kind, .int .i64 t.pos, .int .i64 4, .string t.text, .int .i64 t.num] 25))
                  have hownP := HRP6.out.own
                  rw [HLP.out] at hownP
                  have HOWP := Lib.hid hownP
                  have HNC : Hid (∀ (j : Nat) (u : Value), (tkCells (lined 4 t))[j]? = some u → ((w5.alloc (.cells #[.int .i64 t.kind, .int .i64 t.pos, .int .i64 4, .string t.text, .int .i64 t.num] 25)).alloc (.cells #[.int .i64 t.kind, .int .i64 t.pos, .int .i64 4, .string t.text, .int .i64 t.num] 25)).cell? ((⟨w5.heap.size + 1, 0, none⟩ : Addr).add j) = some u) := Lib.hid fun j u hu => by
                    have h := new_cells (w5.alloc (.cells #[.int .i64 t.kind, .int .i64 t.pos, .int .i64 4, .string t.text, .int .i64 t.num] 25)) (lined 4 t) j u hu
                    rw [hsz] at h
                    exact h
                  have HBX6 : Hid (((w5.alloc (.cells #[.int .i64 t.kind, .int .i64 t.pos, .int .i64 4, .string t.text, .int .i64 t.num] 25)).alloc (.cells #[.int .i64 t.kind, .int .i64 t.pos, .int .i64 4, .string t.text, .int .i64 t.num] 25)).heap[w5.heap.size]? = some (.cells #[.int .i64 t.kind, .int .i64 t.pos, .int .i64 4, .string t.text, .int .i64 t.num] 25 (0, 0))) := Lib.hid ((Below.heap_alloc _ _ _ (by rw [hsz]; omega)).trans hBX5)
                  clear hownP HRD5 HRP5 hsz hBX5 hsz6
                  go_wp2_with (at_builtin; refine wpList_append_tok rfl _ _ rfl w1'.heap.size _ n11 _ rfl HOWP.out (w5.heap.size + 1) (lined 4 t) 1 rfl HNC.out (by omega) HRD6.out.bel.size ?_)
                  intro o9 c9 w7 hown7 hgr7 hfr7
                  have HRP7 : Hid (Row w1' w7 (.slice o9 (n11 + 1) c9) (accP ++ [lined 4 t])) := Lib.hid (HRP6.out.push (lined 4 t) hgr7 (by rw [HLP.out]; exact hown7))
                  have HRD7 : Hid (Row w1' w7 (.slice o6 n6 c6) accD) := Lib.hid (HRD6.out.other HRP6.out hgr7 (ne_flip HNE.out))
                  have HBX7 := Lib.hid ((hgr7.block w5.heap.size (lt_of_block HBX6.out) (fun e => by have := HBP2.out _ e.symm; omega)).trans HBX6.out)
                  have HNE7 : Hid ((Value.slice o9 (n11 + 1) c9).ownBlock = none ∨ (Value.slice o9 (n11 + 1) c9).ownBlock ≠ (Value.slice o6 n6 c6).ownBlock) := Lib.hid (ne_next HNE.out hfr7 fun gg hgg => by have := HBD2.out _ hgg; have := HSZ6.out; omega)
                  have y0 : w7.cell? ⟨w5.heap.size, 0, none⟩ = some (.int .i64 t.kind) := (cell_of_row _ _ _ _ _ _ HBX7.out).trans rfl
                  have y1 : w7.cell? ⟨w5.heap.size, 1, none⟩ = some (.int .i64 t.pos) := (cell_of_row _ _ _ _ _ _ HBX7.out).trans rfl
                  have y2 : w7.cell? ⟨w5.heap.size, 2, none⟩ = some (.int .i64 4) := (cell_of_row _ _ _ _ _ _ HBX7.out).trans rfl
                  have y3 : w7.cell? ⟨w5.heap.size, 3, none⟩ = some (.string t.text) := (cell_of_row _ _ _ _ _ _ HBX7.out).trans rfl
                  have y4 : w7.cell? ⟨w5.heap.size, 4, none⟩ = some (.int .i64 t.num) := (cell_of_row _ _ _ _ _ _ HBX7.out).trans rfl
                  have HACP1 : Hid ((ts.take (k + 1)).map (lined 4) = accP ++ [lined 4 t]) := Lib.hid (by rw [List.take_succ_eq_append_getElem hlt, HTK.out, List.map_append, HACP.out]; rfl)
                  have HX5 : Hid (w5.heap.size < w7.heap.size) := Lib.hid (lt_of_block HBX7.out)
                  clear d0 d1 d2 d3 d4 hown7 hgr7 hfr7 HRD6 HRP6 HOWP HNC HBX6 HNE HBP2 HSZ6
                  cases hk0' : (t.kind == 0) with
                  | true =>
                    have HK0 : Hid (t.kind = 0) := Lib.hid (by rw [beq_iff_eq] at hk0'; exact hk0')
                    have hby := toks_two w7 tokP tokF
                    have hW1 : (w7.alloc (.cells (cellsOf [tokP, tokF]).toArray 25)) = w7.alloc (.cells #[.int .i64 4, .int .i64 0, .int .i64 5, .string ⟨#[35]⟩, .int .i64 0, .int .i64 1, .int .i64 0, .int .i64 5, .string ⟨#[101, 110, 100, 105, 102]⟩, .int .i64 0] 25) := rfl
                    rw [hW1] at hby
                    have HBY := Lib.hid hby
                    have HRDa := Lib.hid (HRD7.out.alloc (.cells #[.int .i64 4, .int .i64 0, .int .i64 5, .string ⟨#[35]⟩, .int .i64 0, .int .i64 1, .int .i64 0, .int .i64 5, .string ⟨#[101, 110, 100, 105, 102]⟩, .int .i64 0] 25))
                    have HRPa := Lib.hid (HRP7.out.alloc (.cells #[.int .i64 4, .int .i64 0, .int .i64 5, .string ⟨#[35]⟩, .int .i64 0, .int .i64 1, .int .i64 0, .int .i64 5, .string ⟨#[101, 110, 100, 105, 102]⟩, .int .i64 0] 25))
                    have how := HRDa.out.own
                    rw [HLD.out] at how
                    have HOW := Lib.hid how
                    have HBXa := Lib.hid ((Below.heap_alloc w7 (.cells #[.int .i64 4, .int .i64 0, .int .i64 5, .string ⟨#[35]⟩, .int .i64 0, .int .i64 1, .int .i64 0, .int .i64 5, .string ⟨#[101, 110, 100, 105, 102]⟩, .int .i64 0] 25) _ HX5.out).trans HBX7.out)
                    clear hby hW1 how
                    go_wp2_with (at_builtin; refine wpList_append_two rfl _ _ rfl w1'.heap.size _ n6 _ rfl HOW.out w7.heap.size tokP tokF 2 rfl HBY.out (by omega) HRDa.out.bel.size ?_)
                    intro o8 c8 w8 hown8 hgr8 hfr8
                    have HRD8 : Hid (Row w1' w8 (.slice o8 (n6 + 2) c8) (accD ++ [tokP, tokF])) := Lib.hid (HRDa.out.push2 tokP tokF hgr8 (by rw [HLD.out]; exact hown8))
                    have HRP8 : Hid (Row w1' w8 (.slice o9 (n11 + 1) c9) (accP ++ [lined 4 t])) := Lib.hid (HRPa.out.other HRDa.out hgr8 HNE7.out)
                    have HBX8 := Lib.hid ((hgr8.block w5.heap.size (lt_of_block HBXa.out) (fun e => by have := HBD2.out _ e.symm; omega)).trans HBXa.out)
                    have HNE8 : Hid ((Value.slice o9 (n11 + 1) c9).ownBlock = none ∨ (Value.slice o9 (n11 + 1) c9).ownBlock ≠ (Value.slice o8 (n6 + 2) c8).ownBlock) := Lib.hid (ne_flip (ne_next (ne_flip HNE7.out) hfr8 fun gg hgg => by have h := (HRPa.out.own.lt gg hgg).2; rw [World.size_alloc] at h; exact h))
                    have z0 : w8.cell? ⟨w5.heap.size, 0, none⟩ = some (.int .i64 t.kind) := (cell_of_row _ _ _ _ _ _ HBX8.out).trans rfl
                    have z1 : w8.cell? ⟨w5.heap.size, 1, none⟩ = some (.int .i64 t.pos) := (cell_of_row _ _ _ _ _ _ HBX8.out).trans rfl
                    have z2 : w8.cell? ⟨w5.heap.size, 2, none⟩ = some (.int .i64 4) := (cell_of_row _ _ _ _ _ _ HBX8.out).trans rfl
                    have z3 : w8.cell? ⟨w5.heap.size, 3, none⟩ = some (.string t.text) := (cell_of_row _ _ _ _ _ _ HBX8.out).trans rfl
                    have z4 : w8.cell? ⟨w5.heap.size, 4, none⟩ = some (.int .i64 t.num) := (cell_of_row _ _ _ _ _ _ HBX8.out).trans rfl
                    clear hown8 hgr8 hfr8 y0 y1 y2 y3 y4 HOW HBY HRDa HRPa HRD7 HRP7 HBXa HBX7 HNE7
                    have hRDb := HRD8.out.alloc (.cells #[.int .i64 t.kind, .int .i64 t.pos, .int .i64 4, .string t.text, .int .i64 t.num] 25)
                    have HRDb := Lib.hid hRDb
                    have HRPb := Lib.hid (HRP8.out.alloc (.cells #[.int .i64 t.kind, .int .i64 t.pos, .int .i64 4, .string t.text, .int .i64 t.num] 25))
                    have howb := hRDb.own
                    rw [show (accD ++ [tokP, tokF]).length = n6 + 2 by (rw [List.length_append, HLD.out]; rfl)] at howb
                    have HOWb := Lib.hid howb
                    have HNCb : Hid (∀ (j : Nat) (u : Value), (tkCells (lined 4 t))[j]? = some u → (w8.alloc (.cells #[.int .i64 t.kind, .int .i64 t.pos, .int .i64 4, .string t.text, .int .i64 t.num] 25)).cell? ((⟨w8.heap.size, 0, none⟩ : Addr).add j) = some u) := Lib.hid fun j u hu => new_cells w8 (lined 4 t) j u hu
                    have HBPb : Hid (∀ gg, (Value.slice o9 (n11 + 1) c9).ownBlock = some gg → gg < w8.heap.size + 1) := Lib.hid fun gg hgg => by have h := (HRPb.out.own.lt gg hgg).2; rw [World.size_alloc] at h; exact h
                    clear howb hRDb
                    go_wp2_with (at_builtin; refine wpList_append_tok rfl _ _ rfl w1'.heap.size _ (n6 + 2) _ rfl HOWb.out w8.heap.size (lined 4 t) 1 rfl HNCb.out (by omega) HRDb.out.bel.size ?_)
                    intro oa ca wa howna hgra hfra
                    have HRDc : Hid (Row w1' wa (.slice oa (n6 + 2 + 1) ca) (accD ++ [tokP, tokF] ++ [lined 4 t])) := Lib.hid (HRDb.out.push (lined 4 t) hgra (by rw [show (accD ++ [tokP, tokF]).length = n6 + 2 by (rw [List.length_append, HLD.out]; rfl)]; exact howna))
                    have HRPc : Hid (Row w1' wa (.slice o9 (n11 + 1) c9) (accP ++ [lined 4 t])) := Lib.hid (HRPb.out.other HRDb.out hgra HNE8.out)
                    have HNEc : Hid ((Value.slice o9 (n11 + 1) c9).ownBlock = none ∨ (Value.slice o9 (n11 + 1) c9).ownBlock ≠ (Value.slice oa (n6 + 2 + 1) ca).ownBlock) := Lib.hid (ne_flip (ne_next (ne_flip HNE8.out) hfra fun gg hgg => HBPb.out gg hgg))
                    have HACD1 : Hid (pre ++ tailOf (ts.take (k + 1)) = accD ++ [tokP, tokF] ++ [lined 4 t]) := Lib.hid (by rw [tailOf_take hlt HTK.out, ← List.append_assoc, HACD.out, if_pos HK0.out]; simp)
                    clear howna hgra hfra HRDb HRPb HOWb HNCb HBPb z0 z1 z2 z3 z4 HRD8 HRP8 HBX8 HNE8
                    go_wp2_with fail
                    go_roundw
                    case rel => exact ⟨k + 1, _, _, _, _, _, _, by go_num, by omega, rfl, rfl, Lib.hid (by rw [HACD1.out, List.length_append, show (accD ++ [tokP, tokF]).length = n6 + 2 by (rw [List.length_append, HLD.out]; rfl)]; rfl), Lib.hid (by have := HN11.out; omega), by rw [HACD1.out]; exact HRDc, by rw [HACP1.out]; exact HRPc, HNEc, Lib.hid (step_mk HMK.out HTK.out HM1.out)⟩
                    case measure => simp [intOf]; omega
                  | false =>
                    have HK0 : Hid (¬ t.kind = 0) := Lib.hid (by rw [beq_eq_false_iff_ne] at hk0'; exact hk0')
                    have hRDb := HRD7.out.alloc (.cells #[.int .i64 t.kind, .int .i64 t.pos, .int .i64 4, .string t.text, .int .i64 t.num] 25)
                    have HRDb := Lib.hid hRDb
                    have HRPb := Lib.hid (HRP7.out.alloc (.cells #[.int .i64 t.kind, .int .i64 t.pos, .int .i64 4, .string t.text, .int .i64 t.num] 25))
                    have howb := hRDb.own
                    rw [show (accD).length = n6 by (rw [HLD.out])] at howb
                    have HOWb := Lib.hid howb
                    have HNCb : Hid (∀ (j : Nat) (u : Value), (tkCells (lined 4 t))[j]? = some u → (w7.alloc (.cells #[.int .i64 t.kind, .int .i64 t.pos, .int .i64 4, .string t.text, .int .i64 t.num] 25)).cell? ((⟨w7.heap.size, 0, none⟩ : Addr).add j) = some u) := Lib.hid fun j u hu => new_cells w7 (lined 4 t) j u hu
                    have HBPb : Hid (∀ gg, (Value.slice o9 (n11 + 1) c9).ownBlock = some gg → gg < w7.heap.size + 1) := Lib.hid fun gg hgg => by have h := (HRPb.out.own.lt gg hgg).2; rw [World.size_alloc] at h; exact h
                    clear howb hRDb
                    go_wp2_with (at_builtin; refine wpList_append_tok rfl _ _ rfl w1'.heap.size _ (n6) _ rfl HOWb.out w7.heap.size (lined 4 t) 1 rfl HNCb.out (by omega) HRDb.out.bel.size ?_)
                    intro oa ca wa howna hgra hfra
                    have HRDc : Hid (Row w1' wa (.slice oa (n6 + 1) ca) (accD ++ [lined 4 t])) := Lib.hid (HRDb.out.push (lined 4 t) hgra (by rw [show (accD).length = n6 by (rw [HLD.out])]; exact howna))
                    have HRPc : Hid (Row w1' wa (.slice o9 (n11 + 1) c9) (accP ++ [lined 4 t])) := Lib.hid (HRPb.out.other HRDb.out hgra HNE7.out)
                    have HNEc : Hid ((Value.slice o9 (n11 + 1) c9).ownBlock = none ∨ (Value.slice o9 (n11 + 1) c9).ownBlock ≠ (Value.slice oa (n6 + 1) ca).ownBlock) := Lib.hid (ne_flip (ne_next (ne_flip HNE7.out) hfra fun gg hgg => HBPb.out gg hgg))
                    have HACD1 : Hid (pre ++ tailOf (ts.take (k + 1)) = accD ++ [lined 4 t]) := Lib.hid (by rw [tailOf_take hlt HTK.out, ← List.append_assoc, HACD.out, if_neg HK0.out])
                    clear howna hgra hfra HRDb HRPb HOWb HNCb HBPb y0 y1 y2 y3 y4 HRD7 HRP7 HBX7 HNE7
                    go_wp2_with fail
                    go_roundw
                    case rel => exact ⟨k + 1, _, _, _, _, _, _, by go_num, by omega, rfl, rfl, Lib.hid (by rw [HACD1.out, List.length_append, show (accD).length = n6 by (rw [HLD.out])]; rfl), Lib.hid (by have := HN11.out; omega), by rw [HACD1.out]; exact HRDc, by rw [HACP1.out]; exact HRPc, HNEc, Lib.hid (step_mk HMK.out HTK.out HM1.out)⟩
                    case measure => simp [intOf]; omega
              · obtain rfl : k = ts.length := by omega
                have hD : accD = preOf body ++ tailOf ts := by have h := HACD.out; rw [List.take_length] at h; rw [← h, HPRE.out]
                have hPl : accP = ts.map (lined 4) := by have h := HACP.out; rw [List.take_length] at h; exact h.symm
                have hDz : 0 < accD.length := by rw [hD]; simp [preOf]
                have hPz : 0 < accP.length := by rw [hPl]; simpa using hz
                obtain ⟨g6, cc6, hv6, hg6, _, hc6⟩ := form_of HRD.out.own hDz
                obtain ⟨gp, cp, hvp, hgp, _, hcp⟩ := form_of HRP.out.own hPz
                injection hv6 with a1 a2 a3
                injection hvp with b1 b2 b3
                subst a1 a3 b1 b3
                have hTD : Toks wr g6 0 accD := toks_of_own (by have h := HRD.out.own; rwa [a2] at h)
                have hTP : Toks wr gp 0 accP := toks_of_own (by have h := HRP.out.own; rwa [b2] at h)
                have HTP := Lib.hid hTP
                have HPL2 := Lib.hid hPl
                have HCP := Lib.hid hcp
                have HLAW := Lib.hid (skips_law g6 c6 body ts wr accD hD hTD HG.out HOB.out (fun j h => HMK.out j h h) (by omega) (by omega) hc6)
                rw [HLD.out] at HLAW
                have HBR := Lib.hid HRD.out.bel
                have HAL := Lib.hid fun w' (hb : Below wr.heap.size wr w') => alone_law gp c11 ts w' accP hPl (hTP.below hb) HG.out (fun j h => HMK.out j h h) (by omega) hcp
                rw [HLP.out] at HAL
                clear hD hPl hDz hPz hg6 hc6 hgp hcp hTD hTP a2 b2
                go_wp2_with fail
                refine HLAW.out.mono ?_
                rintro e wa ⟨va, rfl, hra⟩
                have hlen : (ts.map (lined 4)).length = n11 := by rw [← HPL2.out, HLP.out]
                have hz4 : 0 < (ts.map (lined 4)).length := by simpa using hz
                obtain ⟨ga, ca, rfl, hga, _, hca⟩ := form_of hra.own hz4
                have HTA := Lib.hid (toks_of_own hra.own)
                have HBA := Lib.hid hra.bel
                have HLEN := Lib.hid hlen
                have HALa := Lib.hid (HAL.out wa hra.bel)
                rw [hlen]
                clear hra hlen hz4 hga hca HAL HLAW
                go_wp2_with fail
                refine HALa.out.mono ?_
                rintro e wb ⟨vb, rfl, hrb⟩
                have hz4 : 0 < (ts.map (lined 4)).length := by simpa using hz
                obtain ⟨gb, cb, rfl, hgb, _, hcb⟩ := form_of hrb.own hz4
                have HSA := Lib.hid (same_any ga 0 ca gb 0 cb (ts.map (lined 4)) wb (HTA.out.below hrb.bel) (toks_of_own hrb.own) (by unfold maxLen; simp; omega))
                have HBB := Lib.hid (HBA.out.trans (hrb.bel.mono HBA.out.size))
                rw [HLEN.out] at HSA ⊢
                clear hrb hz4 hgb hcb HALa
                go_wp2_with fail
                refine HSA.out.mono ?_
                rintro e wc ⟨rfl, hbc⟩
                have HBC := Lib.hid (HBB.out.trans (hbc.mono HBB.out.size))
                have HBZ := Lib.hid (HBR.out.trans (HBC.out.mono HBR.out.size))
                clear hbc HSA
                go_wp2_with fail
                go_ret
                exact ⟨rfl, HB1.out.trans (HBZ.out.mono HB1.out.size)⟩
end Go.Proofs.Ytojneaffoekpnaa
