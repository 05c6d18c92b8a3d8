/- The law of one macro, walked. -/
import Derived.Test.YtojneaffoekpnaaApp
namespace Go.Proofs.Ytojneaffoekpnaa
open Go.ChangeShapes Go.WideShapes Go.ChangeAt Go.RowKit
set_option linter.unusedVariables false
set_option linter.unusedSimpArgs false

def zzB : ByteArray := ⟨#[122, 122]⟩
def tokS : TK := ⟨4, 0, 1, ⟨#[35]⟩, 0⟩
def tokD : TK := ⟨1, 0, 1, defineB, 0⟩
def tokZ : TK := ⟨1, 0, 1, zzB, 0⟩
/-- A token, on another line. -/
def lined (n : Int) (t : TK) : TK := ⟨t.kind, t.pos, n, t.text, t.num⟩
def isZz (t : TK) : Bool := decide (t.kind = 1) && decide (t.text = zzB)
/-- Tokens that the body of a macro may have. -/
def okB (t : TK) : Prop := isMk t ⟨#[35]⟩ = false ∧ isMk t ⟨#[40]⟩ = false ∧ t.kind ≠ 0 ∧ isZz t = false

theorem ne_flip {a b : Option Nat} (h : a = none ∨ a ≠ b) : b = none ∨ b ≠ a := by
  rcases h with h | h
  · subst h
    cases b with
    | none => exact .inl rfl
    | some x => exact .inr (by simp)
  · exact .inr (Ne.symm h)
theorem ne_next {a a' b : Option Nat} {n : Nat} (h : a = none ∨ a ≠ b) (hf : a' = a ∨ a' = some n) (hb : ∀ gg, b = some gg → gg < n) : a' = none ∨ a' ≠ b := by
  rcases hf with e | e
  · rw [e]; exact h
  · right
    rw [e]
    intro e2
    have := hb n e2.symm
    omega
theorem row3 (w : World) : Row w (w.alloc (.cells (cellsOf [tokS, tokD, tokZ]).toArray 25)) (.slice (some ⟨w.heap.size, 0, none⟩) 3 3) [tokS, tokD, tokZ] := by
  refine ⟨⟨rfl, .inr ⟨w.heap.size, 3, _, rfl, Nat.le_refl _, heap_alloc_new _ _, Nat.le_refl _, by decide, rfl, rfl⟩⟩, (Below.refl _ _).alloc (Nat.le_refl _) _⟩
theorem Row.other {w0 w w2 : World} {v v2 : Value} {acc acc2 : List TK} (h : Row w0 w v acc) (hv : Row w0 w v2 acc2) (hg : w.grownBy w2 v2.ownBlock) (hne : v.ownBlock = none ∨ v.ownBlock ≠ v2.ownBlock) : Row w0 w2 v acc :=
  ⟨h.own.kept hg hne, h.bel.grown hg h.bel.size fun k hk => (hv.own.lt k hk).1⟩

def plainOf (body ts : List TK) : List TK := ts.flatMap fun t => if isZz t = true then body else [lined 2 t]
theorem plainOf_take {body ts : List TK} {t : TK} {k : Nat} (hk : k < ts.length) (ht : ts[k] = t) : plainOf body (ts.take (k + 1)) = plainOf body (ts.take k) ++ (if isZz t = true then body else [lined 2 t]) := by
  rw [List.take_succ_eq_append_getElem hk, ht]
  simp [plainOf]
theorem plainOf_le {body : List TK} (hb : body.length ≤ 15) (ts : List TK) : (plainOf body ts).length ≤ ts.length * 15 := by
  induction ts with
  | nil => simp [plainOf]
  | cons t r ih =>
    have : (plainOf body (t :: r)).length = (if isZz t = true then body else [lined 2 t]).length + (plainOf body r).length := by simp [plainOf]
    rw [this, List.length_cons]
    split
    · omega
    · simp; omega
theorem isMk_lined (n : Int) (t : TK) (s : ByteArray) : isMk (lined n t) s = isMk t s := rfl
theorem step_mk {ts : List TK} {t : TK} {k : Nat} (h : ∀ j (h : j < ts.length), j < k → isMk ts[j] ⟨#[35]⟩ = false) {hk : k < ts.length} (ht : ts[k] = t) (h1 : isMk t ⟨#[35]⟩ = false) : ∀ j (h : j < ts.length), j < k + 1 → isMk ts[j] ⟨#[35]⟩ = false := by
  intro j hj hjk
  by_cases e : j = k
  · subst e
    rw [ht]
    exact h1
  · exact h j hj (by omega)
theorem step_ok {body : List TK} {t : TK} {k : Nat} (h : ∀ j (h : j < body.length), j < k → okB body[j]) {hk : k < body.length} (ht : body[k] = t) (h1 : okB t) : ∀ j (h : j < body.length), j < k + 1 → okB body[j] := by
  intro j hj hjk
  by_cases e : j = k
  · subst e
    rw [ht]
    exact h1
  · exact h j hj (by omega)
theorem walk_nil (bo : Option Addr) (bn bc : Nat) (o : Option Addr) (cap : Nat) (w : World) : Calls Try.prog 3 #[.slice bo bn bc, .slice o 0 cap] w fun e w' => e = .returned (.bool true) ∧ Below w.heap.size w w' := by
  go_enter Try.func3, Try.ntmps3
  go_wp2_with ((go_at_call 5; refine (right_nil _ _ _).mono ?_; rintro e w1 ⟨rfl, rfl⟩))
  go_ret
  exact ⟨rfl, Below.refl _ _⟩

theorem isUse_zz (n : Int) (t : TK) : isUse (some (zzB, none, 0, 0)) (lined n t) = isZz t := by
  unfold isUse isZz lined
  congr 1
  simp only [decide_eq_decide]
  exact ⟨fun h => h.symm, fun h => h.symm⟩
theorem cores (body : List TK) : ∀ r : List TK, (expand (some (zzB, none, 0, 0)) (body.map (lined 1)) (r.map (lined 2))).map core = (plainOf body r).map core := by
  intro r
  induction r with
  | nil => rfl
  | cons t r ih =>
    have e1 : expand (some (zzB, none, 0, 0)) (body.map (lined 1)) ((t :: r).map (lined 2)) = (if isUse (some (zzB, none, 0, 0)) (lined 2 t) = true then (body.map (lined 1)).map (moved (lined 2 t)) else [lined 2 t]) ++ expand (some (zzB, none, 0, 0)) (body.map (lined 1)) (r.map (lined 2)) := by simp [expand]
    have e2 : plainOf body (t :: r) = (if isZz t = true then body else [lined 2 t]) ++ plainOf body r := by simp [plainOf]
    rw [e1, e2, List.map_append, List.map_append, ih, isUse_zz]
    congr 1
    split
    · simp [Function.comp_def, core, moved, lined]
    · rfl

theorem once_law (g cap : Nat) (body ts : List TK) (w : World) (ht : Toks w g 0 ([tokS, tokD, tokZ] ++ body.map (lined 1) ++ ts.map (lined 2))) (hr : Right ts) (hok : ∀ j (h : j < body.length), okB body[j]) (hmk : ∀ j (h : j < ts.length), isMk ts[j] ⟨#[35]⟩ = false) (hb15 : body.length ≤ 15) (h500 : ts.length ≤ 500)
    (hcap : ([tokS, tokD, tokZ] ++ body.map (lined 1) ++ ts.map (lined 2)).length ≤ cap) :
    Calls Try.prog 7 #[.slice (some ⟨g, 0, none⟩) ([tokS, tokD, tokZ] ++ body.map (lined 1) ++ ts.map (lined 2)).length cap] w fun e w' => ∃ v us, e = .returned (.tuple #[v, .int .i64 0, .int .i64 0]) ∧ Row w w' v us ∧ us.map core = (plainOf body ts).map core ∧ 0 < us.length := by
  have hne : ts ≠ [] := fun h => by have := hr.1; rw [h] at this; simp at this
  obtain ⟨r, e, hts⟩ : ∃ r e, ts = r ++ [e] := ⟨ts.dropLast, ts.getLast hne, (List.dropLast_concat_getLast hne).symm⟩
  have hek : e.kind = 0 := by
    have h := (hr.2 r.length (by rw [hts]; simp)).2 (by rw [hts]; simp)
    have e1 : ts[r.length]'(by rw [hts]; simp) = e := by subst hts; simp
    rwa [e1] at h
  have hez : isZz e = false := by simp [isZz, hek]
  have hbm : ∀ k ∈ body, okB k := fun k hk => by
    obtain ⟨j, hj, rfl⟩ := List.getElem_of_mem hk
    exact hok j hj
  have htm : ∀ k ∈ ts, isMk k ⟨#[35]⟩ = false := fun k hk => by
    obtain ⟨j, hj, rfl⟩ := List.getElem_of_mem hk
    exact hmk j hj
  have hform : [tokS, tokD, tokZ] ++ body.map (lined 1) ++ ts.map (lined 2) = (tokS :: tokD :: tokZ :: body.map (lined 1)) ++ (r.map (lined 2) ++ [lined 2 e]) := by
    rw [hts]; simp
  have hR : Right ([tokS, tokD, tokZ] ++ body.map (lined 1) ++ ts.map (lined 2)) := by
    refine ⟨by simp, fun i hi => ?_⟩
    have hL : ([tokS, tokD, tokZ] ++ body.map (lined 1)).length = body.length + 3 := by simp
    by_cases h1 : i < body.length + 3
    · have hgi : ([tokS, tokD, tokZ] ++ body.map (lined 1) ++ ts.map (lined 2))[i] = ([tokS, tokD, tokZ] ++ body.map (lined 1))[i]'(by omega) := List.getElem_append_left _
      rw [hgi]
      have hk : (([tokS, tokD, tokZ] ++ body.map (lined 1))[i]'(by omega)).kind ≠ 0 := by
        have hm := List.getElem_mem (l := [tokS, tokD, tokZ] ++ body.map (lined 1)) (n := i) (by omega)
        generalize ([tokS, tokD, tokZ] ++ body.map (lined 1))[i]'(by omega) = x at hm ⊢
        simp only [List.mem_append, List.mem_cons, List.not_mem_nil, or_false, List.mem_map] at hm
        rcases hm with (rfl | rfl | rfl) | ⟨k, hk, rfl⟩
        · decide
        · decide
        · decide
        · exact (hbm k hk).2.2.1
      have hlen : ([tokS, tokD, tokZ] ++ body.map (lined 1) ++ ts.map (lined 2)).length = body.length + 3 + ts.length := by rw [List.length_append, hL, List.length_map]
      have := hr.1
      exact ⟨fun h => absurd h hk, fun h => by omega⟩
    · have hlen : ([tokS, tokD, tokZ] ++ body.map (lined 1) ++ ts.map (lined 2)).length = body.length + 3 + ts.length := by rw [List.length_append, hL, List.length_map]
      have hj : i - (body.length + 3) < ts.length := by omega
      have hgi : ([tokS, tokD, tokZ] ++ body.map (lined 1) ++ ts.map (lined 2))[i] = lined 2 (ts[i - (body.length + 3)]) := by
        rw [List.getElem_append_right (by omega)]
        simp
      rw [hgi]
      show (ts[i - (body.length + 3)]).kind = 0 ↔ _
      rw [hr.2 _ hj]
      omega
  have hrl : r.length ≤ 500 := by rw [hts] at h500; simp at h500; omega
  have hmem2 : ∀ k ∈ r.map (lined 2) ++ [lined 2 e], ∃ x ∈ ts, k = lined 2 x := by
    intro k hk
    simp only [List.mem_append, List.mem_map, List.mem_singleton] at hk
    rcases hk with ⟨x, hx, rfl⟩ | rfl
    · exact ⟨x, by rw [hts]; simp [hx], rfl⟩
    · exact ⟨e, by rw [hts]; simp, rfl⟩
  have hmain := once_any g 0 cap tokS tokD tokZ (body.map (lined 1)) (r.map (lined 2)) (lined 2 e) _ hform w ht hR hcap (by decide) rfl rfl rfl (by decide +kernel)
    (fun h => by rw [List.getElem_map, isMk_lined]; exact (hok 0 (by simpa using h)).2.1)
    (fun k hk => by
      simp only [List.mem_map] at hk
      obtain ⟨x, hx, rfl⟩ := hk
      have h1 := (hbm x hx).2.2.2
      intro h2
      simp [isZz] at h1
      exact h1 h2.1 h2.2.symm)
    (by simpa using hb15) (fun k hk => by obtain ⟨x, hx, rfl⟩ := hmem2 k hk; exact htm x hx) (by simpa using hrl)
    (fun k hk => by
      simp only [List.mem_cons, List.mem_map] at hk
      rcases hk with rfl | rfl | ⟨x, _, rfl⟩ <;> rfl)
    (fun k hk => by obtain ⟨x, _, rfl⟩ := hmem2 k hk; show (2 : Int) ≠ 1; decide)
  refine hmain.mono ?_
  rintro e' w' ⟨v, rfl, hrow⟩
  refine ⟨v, _, rfl, hrow, ?_, by simp⟩
  have e2 : plainOf body ts = plainOf body r ++ [lined 2 e] := by rw [hts]; simp [plainOf, hez]
  rw [e2, List.map_append, List.map_append]
  exact congrArg (· ++ [core (lined 2 e)]) (cores body r)

set_option maxRecDepth 100000 in
set_option maxHeartbeats 4000000 in
theorem walk_some (bo : Option Addr) (bc : Nat) (body : List TK) (g off cap : Nat) (ts : List TK) (w : World) (hb : BodyAt w bo body) (hbo : bo = none → body.length = 0 ∧ bc = 0) (ht : Toks w g off ts) (hm : ts.length ≤ maxLen) (hmb : body.length ≤ maxLen) (hz : 0 < ts.length) (hcap : ts.length ≤ cap) :
    Calls Try.prog 3 #[.slice bo body.length bc, .slice (some ⟨g, off, none⟩) ts.length cap] w fun e w' => e = .returned (.bool true) ∧ Below w.heap.size w w' := by
  obtain ⟨i25, hi25, ha25, hb25, hc25⟩ := info_parts info25
  have HI := Lib.hid (And.intro hi25 (And.intro ha25 (And.intro hb25 hc25)))
  clear hi25 ha25 hb25 hc25
  have HT := Lib.hid ht
  have HBD := Lib.hid hb
  have HBO := Lib.hid hbo
  have HM := Lib.hid hm
  have hm2 : (ts.length : Int) ≤ 9223372036854775807 := by unfold maxLen at hm; omega
  have hm3 : (body.length : Int) ≤ 9223372036854775807 := by unfold maxLen at hmb; omega
  have HR := Lib.hid (right_any g off cap ts w hm hz ht)
  clear ht hm hb hmb hbo
  go_enter Try.func3, Try.ntmps3
  go_wp2_with fail
  refine HR.out.mono ?_
  rintro e w1 ⟨⟨b, rfl, hb⟩, rfl⟩
  cases b with
  | false =>
    go_wp2_with fail
    go_ret
    exact ⟨rfl, Below.refl _ _⟩
  | true =>
    have HG := Lib.hid (hb rfl)
    clear hb HR
    by_cases h500 : (500 : Int) < (ts.length : Int)
    · go_wp2_with fail
      go_ret
      exact ⟨rfl, Below.refl _ _⟩
    · by_cases h15 : (15 : Int) < (body.length : Int)
      · go_wp2_with fail
        go_ret
        exact ⟨rfl, Below.refl _ _⟩
      · go_wp2_with fail
        have hR0 := row3 w1
        have hW0 : (w1.alloc (.cells (cellsOf [tokS, tokD, tokZ]).toArray 25)) = w1.alloc (.cells #[.int .i64 4, .int .i64 0, .int .i64 1, .string ⟨#[35]⟩, .int .i64 0, .int .i64 1, .int .i64 0, .int .i64 1, .string ⟨#[100, 101, 102, 105, 110, 101]⟩, .int .i64 0, .int .i64 1, .int .i64 0, .int .i64 1, .string ⟨#[122, 122]⟩, .int .i64 0] 25) := rfl
        rw [hW0] at hR0
        have HR0 := Lib.hid hR0
        clear hR0 hW0
        generalize w1.alloc _ = W0 at HR0 ⊢
        have hgw : g < w1.heap.size := HT.out.1
        go_loopw [6, 7] (fun v i wr => ∃ (k : Nat) (o6 : Option Addr) (n6 c6 : Nat), i = .int .i64 k ∧ k ≤ body.length ∧ v = .slice o6 n6 c6 ∧ Hid (n6 = 3 + k) ∧ Hid (Row w1 wr v ([tokS, tokD, tokZ] ++ (body.take k).map (lined 1))) ∧ Hid (∀ j (h : j < body.length), j < k → okB body[j])) (fun _ i _ => body.length - (intOf i).toNat)
        case atStart => exact ⟨0, _, _, _, rfl, by omega, rfl, Lib.hid rfl, by simpa using HR0, Lib.hid fun j h hj => by omega⟩
        case round =>
          obtain ⟨k, o6, n6, c6, rfl, hk, rfl, HN6, HRW, HOK⟩ := hrel
          obtain ⟨acc, hacc⟩ : ∃ acc, [tokS, tokD, tokZ] ++ (body.take k).map (lined 1) = acc := ⟨_, rfl⟩
          rw [hacc] at HRW
          have HACC := Lib.hid hacc
          clear hacc
          by_cases hlt : k < body.length
          · obtain ⟨gb, ob, rfl, hTb⟩ : ∃ gb ob, bo = some ⟨gb, ob, none⟩ ∧ Toks w1 gb ob body := by
              rcases HBD.out with h | h
              · omega
              · exact h
            have HTb := Lib.hid hTb
            obtain ⟨t, ht⟩ : ∃ t, body[k] = t := ⟨_, rfl⟩
            have HTK := Lib.hid ht
            have hgb := hTb.1
            have HCL := Lib.hid fun w' (hb : Below w1.heap.size w1 w') => (show TkAt w' gb (ob + k * 5) t by have h := (hTb.below hb).2 k hlt; rwa [ht] at h)
            have HI1 := Lib.hid fun w' => is_any t ⟨#[35]⟩ w'
            have HI2 := Lib.hid fun w' => is_any t ⟨#[40]⟩ w'
            have hlti : (k : Int) < body.length := by omega
            have hk0 : (0 : Int) ≤ k := by omega
            obtain ⟨c0, c1, c2, c3, c4⟩ := HCL.out wr HRW.out.bel
            clear ht hTb
            go_wp2_with fail
            refine (HI1.out _).mono ?_
            rintro e w5 ⟨rfl, hb5⟩
            have HR5 := Lib.hid (HRW.out.below hb5)
            obtain ⟨d0, d1, d2, d3, d4⟩ := HCL.out w5 HR5.out.bel
            clear hb5 c0 c1 c2 c3 c4 HRW HI1
            go_wp2_with fail
            refine (HI2.out _).mono ?_
            rintro e w6 ⟨rfl, hb6⟩
            have HR6 := Lib.hid (HR5.out.below hb6)
            obtain ⟨c0, c1, c2, c3, c4⟩ := HCL.out w6 HR6.out.bel
            clear hb6 d0 d1 d2 d3 d4 HR5 HI2
            have hadd : IntKind.i64.wrap ((k : Int) + 1) = (k : Int) + 1 := IntWalk.i64_in _ (by omega)
            cases hm1 : isMk t ⟨#[35]⟩ with
            | true =>
              go_wp2_with fail
              go_ret
              exact ⟨rfl, HR6.out.bel⟩
            | false =>
              cases hm2' : isMk t ⟨#[40]⟩ with
              | true =>
                go_wp2_with fail
                go_ret
                exact ⟨rfl, HR6.out.bel⟩
              | false =>
                have HM1 := Lib.hid hm1
                have HM2 := Lib.hid hm2'
                clear hm1 hm2'
                cases hk0' : (t.kind == 0) with
                | true =>
                  go_wp2_with fail
                  go_ret
                  exact ⟨rfl, HR6.out.bel⟩
                | false =>
                  have HK0 : Hid (t.kind ≠ 0) := Lib.hid (by rw [beq_eq_false_iff_ne] at hk0'; exact hk0')
                  cases hk1 : (t.kind == 1) with
                  | false =>
                    have HZZ : Hid (isZz t = false) := Lib.hid (by rw [beq_eq_false_iff_ne] at hk1; simp [isZz, hk1])
                    have HS6 := Lib.hid (HR6.out.alloc (.cells #[.int .i64 t.kind, .int .i64 t.pos, .int .i64 1, .string t.text, .int .i64 t.num] 25))
                    have hown := (HS6.out.alloc (.cells #[.int .i64 t.kind, .int .i64 t.pos, .int .i64 1, .string t.text, .int .i64 t.num] 25)).own
                    have hln : acc.length = n6 := by rw [← HACC.out, HN6.out]; simp; omega
                    rw [hln] at hown
                    have HOW := Lib.hid hown
                    have HLN := Lib.hid hln
                    have hsz : (w6.alloc (.cells #[.int .i64 t.kind, .int .i64 t.pos, .int .i64 1, .string t.text, .int .i64 t.num] 25)).heap.size = w6.heap.size + 1 := World.size_alloc _ _
                    have HNC : Hid (∀ (j : Nat) (u : Value), (tkCells (lined 1 t))[j]? = some u → ((w6.alloc (.cells #[.int .i64 t.kind, .int .i64 t.pos, .int .i64 1, .string t.text, .int .i64 t.num] 25)).alloc (.cells #[.int .i64 t.kind, .int .i64 t.pos, .int .i64 1, .string t.text, .int .i64 t.num] 25)).cell? ((⟨w6.heap.size + 1, 0, none⟩ : Addr).add j) = some u) := Lib.hid fun j u hu => by
                      have h := new_cells (w6.alloc (.cells #[.int .i64 t.kind, .int .i64 t.pos, .int .i64 1, .string t.text, .int .i64 t.num] 25)) (lined 1 t) j u hu
                      rw [hsz] at h
                      exact h
                    have HBS : Hid (w1.heap.size ≤ ((w6.alloc (.cells #[.int .i64 t.kind, .int .i64 t.pos, .int .i64 1, .string t.text, .int .i64 t.num] 25)).alloc (.cells #[.int .i64 t.kind, .int .i64 t.pos, .int .i64 1, .string t.text, .int .i64 t.num] 25)).heap.size) := Lib.hid (HS6.out.alloc _).bel.size
                    have hn6 : n6 ≤ 18 := by have := HN6.out; omega
                    clear hown hln hsz
                    go_wp2_with (at_builtin; refine wpList_append_own _ rfl _ _ 22 rfl w1.heap.size 25 i25 zeroTok 5 48 Try.underlying22 HI.out.1 HI.out.2.1 HI.out.2.2.1 HI.out.2.2.2 rfl (by decide) _ _ _ rfl HOW.out ⟨w6.heap.size + 1, 0, none⟩ 1 1 (tkCells (lined 1 t)) rfl rfl ?cA1 ?cA2 ?cA3 ?cA4 ?cA5 ?_)
                    case cA1 => exact HNC.out
                    case cA2 => exact cells_tk _
                    case cA3 => unfold maxLen; omega
                    case cA4 => omega
                    case cA5 => exact HBS.out
                    intro v2 w7 hown2 hgrow2 _
                    obtain ⟨o7, c7, rfl⟩ := any_form hown2
                    have HR7 : Hid (Row w1 w7 (.slice o7 (n6 + 1) c7) ([tokS, tokD, tokZ] ++ (body.take (k + 1)).map (lined 1))) := Lib.hid (by
                      have h := (HS6.out.alloc _).push (lined 1 t) hgrow2 (by rw [HLN.out]; exact hown2)
                      rw [← HACC.out, List.append_assoc] at h
                      rw [List.take_succ_eq_append_getElem hlt, HTK.out, List.map_append]
                      exact h)
                    clear hown2 hgrow2 HS6 HOW c0 c1 c2 c3 c4 HR6
                    go_wp2_with fail
                    go_roundw
                    case rel => exact ⟨k + 1, _, _, _, by go_num, by omega, rfl, Lib.hid (by have := HN6.out; omega), HR7, Lib.hid (step_ok HOK.out HTK.out ⟨HM1.out, HM2.out, HK0.out, HZZ.out⟩)⟩
                    case measure => simp [intOf]; omega
                  | true =>
                    cases htx : (t.text.toList == [122, 122]) with
                    | true =>
                      go_wp2_with fail
                      go_ret
                      exact ⟨rfl, HR6.out.bel⟩
                    | false =>
                      have HZZ : Hid (isZz t = false) := Lib.hid (by
                        have h1 : (t.text.toList == zzB.toList) = false := by rw [show zzB.toList = [122, 122] by simp [zzB, ByteArray.toList_eq]]; exact htx
                        rw [beq_text] at h1
                        simp [isZz, h1])
                      have HS6 := Lib.hid (HR6.out.alloc (.cells #[.int .i64 t.kind, .int .i64 t.pos, .int .i64 1, .string t.text, .int .i64 t.num] 25))
                      have hown := (HS6.out.alloc (.cells #[.int .i64 t.kind, .int .i64 t.pos, .int .i64 1, .string t.text, .int .i64 t.num] 25)).own
                      have hln : acc.length = n6 := by rw [← HACC.out, HN6.out]; simp; omega
                      rw [hln] at hown
                      have HOW := Lib.hid hown
                      have HLN := Lib.hid hln
                      have hsz : (w6.alloc (.cells #[.int .i64 t.kind, .int .i64 t.pos, .int .i64 1, .string t.text, .int .i64 t.num] 25)).heap.size = w6.heap.size + 1 := World.size_alloc _ _
                      have HNC : Hid (∀ (j : Nat) (u : Value), (tkCells (lined 1 t))[j]? = some u → ((w6.alloc (.cells #[.int .i64 t.kind, .int .i64 t.pos, .int .i64 1, .string t.text, .int .i64 t.num] 25)).alloc (.cells #[.int .i64 t.kind, .int .i64 t.pos, .int .i64 1, .string t.text, .int .i64 t.num] 25)).cell? ((⟨w6.heap.size + 1, 0, none⟩ : Addr).add j) = some u) := Lib.hid fun j u hu => by
                        have h := new_cells (w6.alloc (.cells #[.int .i64 t.kind, .int .i64 t.pos, .int .i64 1, .string t.text, .int .i64 t.num] 25)) (lined 1 t) j u hu
                        rw [hsz] at h
                        exact h
                      have HBS : Hid (w1.heap.size ≤ ((w6.alloc (.cells #[.int .i64 t.kind, .int .i64 t.pos, .int .i64 1, .string t.text, .int .i64 t.num] 25)).alloc (.cells #[.int .i64 t.kind, .int .i64 t.pos, .int .i64 1, .string t.text, .int .i64 t.num] 25)).heap.size) := Lib.hid (HS6.out.alloc _).bel.size
                      have hn6 : n6 ≤ 18 := by have := HN6.out; omega
                      clear hown hln hsz
                      go_wp2_with (at_builtin; refine wpList_append_own _ rfl _ _ 22 rfl w1.heap.size 25 i25 zeroTok 5 48 Try.underlying22 HI.out.1 HI.out.2.1 HI.out.2.2.1 HI.out.2.2.2 rfl (by decide) _ _ _ rfl HOW.out ⟨w6.heap.size + 1, 0, none⟩ 1 1 (tkCells (lined 1 t)) rfl rfl ?cA1 ?cA2 ?cA3 ?cA4 ?cA5 ?_)
                      case cA1 => exact HNC.out
                      case cA2 => exact cells_tk _
                      case cA3 => unfold maxLen; omega
                      case cA4 => omega
                      case cA5 => exact HBS.out
                      intro v2 w7 hown2 hgrow2 _
                      obtain ⟨o7, c7, rfl⟩ := any_form hown2
                      have HR7 : Hid (Row w1 w7 (.slice o7 (n6 + 1) c7) ([tokS, tokD, tokZ] ++ (body.take (k + 1)).map (lined 1))) := Lib.hid (by
                        have h := (HS6.out.alloc _).push (lined 1 t) hgrow2 (by rw [HLN.out]; exact hown2)
                        rw [← HACC.out, List.append_assoc] at h
                        rw [List.take_succ_eq_append_getElem hlt, HTK.out, List.map_append]
                        exact h)
                      clear hown2 hgrow2 HS6 HOW c0 c1 c2 c3 c4 HR6
                      go_wp2_with fail
                      go_roundw
                      case rel => exact ⟨k + 1, _, _, _, by go_num, by omega, rfl, Lib.hid (by have := HN6.out; omega), HR7, Lib.hid (step_ok HOK.out HTK.out ⟨HM1.out, HM2.out, HK0.out, HZZ.out⟩)⟩
                      case measure => simp [intOf]; omega
          · obtain rfl : k = body.length := by omega
            go_wp2_with fail
            have HDZ : Hid (Row w1 wr (.slice o6 n6 c6) ([tokS, tokD, tokZ] ++ body.map (lined 1))) := Lib.hid (by have h := HRW.out; rw [← HACC.out, List.take_length] at h; exact h)
            have HN0 : Hid (n6 = 3 + body.length) := HN6
            have HOB : Hid (∀ j (h : j < body.length), okB body[j]) := Lib.hid fun j h => HOK.out j h h
            obtain ⟨d0, hd0⟩ : ∃ d0, [tokS, tokD, tokZ] ++ body.map (lined 1) = d0 := ⟨_, rfl⟩
            rw [hd0] at HDZ
            have HD0 := Lib.hid hd0
            have hdl : d0.length = 3 + body.length := by rw [← hd0]; simp; omega
            have HDL := Lib.hid hdl
            clear HN6 HRW HACC HOK hd0 hdl
            go_loopw [6, 11, 12] (fun v6 v11 i wr => ∃ (k : Nat) (o6 : Option Addr) (n6 c6 : Nat) (o11 : Option Addr) (n11 c11 : Nat), i = .int .i64 k ∧ k ≤ ts.length ∧ v6 = .slice o6 n6 c6 ∧ v11 = .slice o11 n11 c11 ∧ Hid (n6 = 3 + body.length + k) ∧ Hid (n11 = (plainOf body (ts.take k)).length) ∧ Hid (Row w1 wr v6 (d0 ++ (ts.take k).map (lined 2))) ∧ Hid (Row w1 wr v11 (plainOf body (ts.take k))) ∧ Hid (v11.ownBlock = none ∨ v11.ownBlock ≠ v6.ownBlock) ∧ Hid (∀ j (h : j < ts.length), j < k → isMk ts[j] ⟨#[35]⟩ = false)) (fun _ _ i _ => ts.length - (intOf i).toNat)
            case atStart => exact ⟨0, _, _, _, none, 0, 0, rfl, by omega, rfl, rfl, HN0, Lib.hid rfl, by simpa using HDZ, Lib.hid ⟨World.ownsRow_nil _ _ _ _, HDZ.out.bel⟩, Lib.hid (.inl rfl), Lib.hid fun j h hj => by omega⟩
            case round =>
              obtain ⟨k, o6, n6, c6, o11, n11, c11, rfl, hk, rfl, rfl, HN6, HN11, HRD, HRP, HNE, HMK⟩ := hrel
              obtain ⟨accD, haccD⟩ : ∃ acc, d0 ++ (ts.take k).map (lined 2) = acc := ⟨_, rfl⟩
              rw [haccD] at HRD
              have HACD := Lib.hid haccD
              obtain ⟨accP, haccP⟩ : ∃ acc, plainOf body (ts.take k) = acc := ⟨_, rfl⟩
              rw [haccP] at HRP HN11
              have HACP := Lib.hid haccP
              have hlD : accD.length = n6 := by rw [← haccD, HN6.out, List.length_append, HDL.out]; simp; omega
              have HLD := Lib.hid hlD
              have hplen : accP.length ≤ 7500 := by
                have := plainOf_le (body := body) (by omega) (ts.take k)
                rw [haccP] at this
                simp at this
                omega
              have hn11 : n11 ≤ 7500 := by have := HN11.out; omega
              have hn6 : n6 ≤ 520 := by have := HN6.out; omega
              clear haccD haccP hlD hplen
              by_cases hlt : k < ts.length
              · obtain ⟨t, ht⟩ : ∃ t, ts[k] = t := ⟨_, rfl⟩
                have HTK := Lib.hid ht
                obtain ⟨c0, c1, c2, c3, c4⟩ := (HT.out.below HRD.out.bel).2 k hlt
                rw [ht] at c0 c1 c2 c3 c4
                have HI3 := Lib.hid fun w' => is_any (lined 2 t) ⟨#[35]⟩ w'
                have hlti : (k : Int) < ts.length := by omega
                have hk0 : (0 : Int) ≤ k := by omega
                have HBX : Hid ((wr.alloc (.cells #[.int .i64 t.kind, .int .i64 t.pos, .int .i64 2, .string t.text, .int .i64 t.num] 25)).heap[wr.heap.size]? = some (.cells #[.int .i64 t.kind, .int .i64 t.pos, .int .i64 2, .string t.text, .int .i64 t.num] 25 (0, 0))) := Lib.hid (heap_alloc_new _ _)
                clear ht
                go_wp2_with fail
                refine (HI3.out _).mono ?_
                rintro e w5 ⟨rfl, hb5⟩
                have HBX5 := Lib.hid ((hb5.block _ (lt_of_block HBX.out)).trans HBX.out)
                have HRD5 := Lib.hid ((HRD.out.alloc _).below hb5)
                have HRP5 := Lib.hid ((HRP.out.alloc _).below hb5)
                have hbD : ∀ gg, (Value.slice o6 n6 c6).ownBlock = some gg → gg < wr.heap.size := fun gg h => (HRD.out.own.lt gg h).2
                have hbP : ∀ gg, (Value.slice o11 n11 c11).ownBlock = some gg → gg < wr.heap.size := fun gg h => (HRP.out.own.lt gg h).2
                have HBD2 := Lib.hid hbD
                have HBP2 := Lib.hid hbP
                have hx5 : wr.heap.size < w5.heap.size := lt_of_block HBX5.out
                have x0 : w5.cell? ⟨wr.heap.size, 0, none⟩ = some (.int .i64 t.kind) := (cell_of_row _ _ _ _ _ _ HBX5.out).trans rfl
                have x1 : w5.cell? ⟨wr.heap.size, 1, none⟩ = some (.int .i64 t.pos) := (cell_of_row _ _ _ _ _ _ HBX5.out).trans rfl
                have x2 : w5.cell? ⟨wr.heap.size, 2, none⟩ = some (.int .i64 2) := (cell_of_row _ _ _ _ _ _ HBX5.out).trans rfl
                have x3 : w5.cell? ⟨wr.heap.size, 3, none⟩ = some (.string t.text) := (cell_of_row _ _ _ _ _ _ HBX5.out).trans rfl
                have x4 : w5.cell? ⟨wr.heap.size, 4, none⟩ = some (.int .i64 t.num) := (cell_of_row _ _ _ _ _ _ HBX5.out).trans rfl
                rw [isMk_lined]
                clear hb5 c0 c1 c2 c3 c4 HRD HRP HI3 HBX hbD hbP
                cases hm1 : isMk t ⟨#[35]⟩ with
                | true =>
                  go_wp2_with fail
                  go_ret
                  exact ⟨rfl, HRD5.out.bel⟩
                | false =>
                  have HM1 := Lib.hid hm1
                  clear hm1
                  have HRD6 := Lib.hid (HRD5.out.alloc (.cells #[.int .i64 t.kind, .int .i64 t.pos, .int .i64 2, .string t.text, .int .i64 t.num] 25))
                  have HRP6 := Lib.hid (HRP5.out.alloc (.cells #[.int .i64 t.kind, .int .i64 t.pos, .int .i64 2, .string t.text, .int .i64 t.num] 25))
                  have hownD := HRD6.out.own
                  rw [HLD.out] at hownD
                  have HOWD := Lib.hid hownD
                  have HNC : Hid (∀ (j : Nat) (u : Value), (tkCells (lined 2 t))[j]? = some u → (w5.alloc (.cells #[.int .i64 t.kind, .int .i64 t.pos, .int .i64 2, .string t.text, .int .i64 t.num] 25)).cell? ((⟨w5.heap.size, 0, none⟩ : Addr).add j) = some u) := Lib.hid fun j u hu => new_cells w5 (lined 2 t) j u hu
                  have HBX6 : Hid ((w5.alloc (.cells #[.int .i64 t.kind, .int .i64 t.pos, .int .i64 2, .string t.text, .int .i64 t.num] 25)).heap[wr.heap.size]? = some (.cells #[.int .i64 t.kind, .int .i64 t.pos, .int .i64 2, .string t.text, .int .i64 t.num] 25 (0, 0))) := Lib.hid ((Below.heap_alloc _ _ _ hx5).trans HBX5.out)
                  clear hownD HRD5 HRP5 HBX5
                  go_wp2_with (at_builtin; refine wpList_append_tok rfl _ _ rfl w1.heap.size _ n6 _ rfl HOWD.out w5.heap.size (lined 2 t) 1 rfl HNC.out (by omega) HRD6.out.bel.size ?_)
                  intro o7 c7 w7 hown7 hgr7 hfr7
                  have HRD7 : Hid (Row w1 w7 (.slice o7 (n6 + 1) c7) (accD ++ [lined 2 t])) := Lib.hid (HRD6.out.push (lined 2 t) hgr7 (by rw [HLD.out]; exact hown7))
                  have HRP7 : Hid (Row w1 w7 (.slice o11 n11 c11) accP) := Lib.hid (HRP6.out.other HRD6.out hgr7 HNE.out)
                  have HBX7 := Lib.hid ((hgr7.block wr.heap.size (lt_of_block HBX6.out) (fun e => by have := HBD2.out _ e.symm; omega)).trans HBX6.out)
                  have HNE7 : Hid ((Value.slice o11 n11 c11).ownBlock = none ∨ (Value.slice o11 n11 c11).ownBlock ≠ (Value.slice o7 (n6 + 1) c7).ownBlock) := Lib.hid (by
                    rcases HNE.out with h | h
                    · exact .inl h
                    · right
                      rcases hfr7 with h2 | h2
                      · rw [h2]; exact h
                      · rw [h2]
                        intro e
                        have h3 := HBP2.out _ e
                        omega)
                  have y0 : w7.cell? ⟨wr.heap.size, 0, none⟩ = some (.int .i64 t.kind) := (cell_of_row _ _ _ _ _ _ HBX7.out).trans rfl
                  have y1 : w7.cell? ⟨wr.heap.size, 1, none⟩ = some (.int .i64 t.pos) := (cell_of_row _ _ _ _ _ _ HBX7.out).trans rfl
                  have y2 : w7.cell? ⟨wr.heap.size, 2, none⟩ = some (.int .i64 2) := (cell_of_row _ _ _ _ _ _ HBX7.out).trans rfl
                  have y3 : w7.cell? ⟨wr.heap.size, 3, none⟩ = some (.string t.text) := (cell_of_row _ _ _ _ _ _ HBX7.out).trans rfl
                  have y4 : w7.cell? ⟨wr.heap.size, 4, none⟩ = some (.int .i64 t.num) := (cell_of_row _ _ _ _ _ _ HBX7.out).trans rfl
                  have HACD1 : Hid (d0 ++ (ts.take (k + 1)).map (lined 2) = accD ++ [lined 2 t]) := Lib.hid (by rw [List.take_succ_eq_append_getElem hlt, HTK.out, List.map_append, ← List.append_assoc, HACD.out]; rfl)
                  clear x0 x1 x2 x3 x4 hown7 hgr7 hfr7 HRD6 HRP6 HOWD HNC HBX6 HNE HBD2 HBP2 hx5
                  have hownP := HRP7.out.own
                  rw [← HN11.out] at hownP
                  have HOWP := Lib.hid hownP
                  clear hownP
                  by_cases hzz : isZz t = true
                  · have hkt : t.kind = 1 ∧ t.text = zzB := by simpa [isZz] using hzz
                    have HZT := Lib.hid hzz
                    have htx : (t.text.toList == [122, 122]) = true := by rw [hkt.2, show zzB.toList = [122, 122] by simp [zzB, ByteArray.toList_eq]]; rfl
                    have hk1 : (t.kind == 1) = true := by rw [hkt.1]; rfl
                    clear hzz hkt
                    go_wp2_with (at_builtin; refine wpList_append_body rfl _ _ rfl w1.heap.size _ n11 _ rfl HOWP.out bo bc body rfl (HBD.out.below HRP7.out.bel) HBO.out (by omega) HRP7.out.bel.size ?_)
                    intro o8 c8 w8 hown8 hgr8 hfr8
                    have HRP8 : Hid (Row w1 w8 (.slice o8 (n11 + body.length) c8) (accP ++ body)) := Lib.hid ⟨by rw [cellsOf_append, List.length_append, ← HN11.out]; exact hown8, HRP7.out.bel.grown hgr8 HRP7.out.bel.size fun gg hgg => (HRP7.out.own.lt gg hgg).1⟩
                    have HRD8 : Hid (Row w1 w8 (.slice o7 (n6 + 1) c7) (accD ++ [lined 2 t])) := Lib.hid (HRD7.out.other HRP7.out hgr8 (ne_flip HNE7.out))
                    have HNE8 : Hid ((Value.slice o8 (n11 + body.length) c8).ownBlock = none ∨ (Value.slice o8 (n11 + body.length) c8).ownBlock ≠ (Value.slice o7 (n6 + 1) c7).ownBlock) := Lib.hid (ne_next HNE7.out hfr8 fun gg hgg => (HRD7.out.own.lt gg hgg).2)
                    have HACP1 : Hid (plainOf body (ts.take (k + 1)) = accP ++ body) := Lib.hid (by rw [plainOf_take hlt HTK.out, HZT.out, if_pos rfl, HACP.out])
                    clear hown8 hgr8 hfr8 y0 y1 y2 y3 y4 HOWP HRP7 HRD7 HBX7 HNE7
                    go_wp2_with fail
                    go_roundw
                    case rel => exact ⟨k + 1, _, _, _, _, _, _, by go_num, by omega, rfl, rfl, Lib.hid (by have := HN6.out; omega), Lib.hid (by rw [HACP1.out, List.length_append, ← HN11.out]), by rw [HACD1.out]; exact HRD8, by rw [HACP1.out]; exact HRP8, HNE8, Lib.hid (step_mk HMK.out HTK.out HM1.out)⟩
                    case measure => simp [intOf]; omega
                  · have HZF : Hid (isZz t = false) := Lib.hid (by simpa using hzz)
                    have HRP7a := Lib.hid (HRP7.out.alloc (.cells #[.int .i64 t.kind, .int .i64 t.pos, .int .i64 2, .string t.text, .int .i64 t.num] 25))
                    have HRD7a := Lib.hid (HRD7.out.alloc (.cells #[.int .i64 t.kind, .int .i64 t.pos, .int .i64 2, .string t.text, .int .i64 t.num] 25))
                    have HNC : Hid (∀ (j : Nat) (u : Value), (tkCells (lined 2 t))[j]? = some u → (w7.alloc (.cells #[.int .i64 t.kind, .int .i64 t.pos, .int .i64 2, .string t.text, .int .i64 t.num] 25)).cell? ((⟨w7.heap.size, 0, none⟩ : Addr).add j) = some u) := Lib.hid fun j u hu => new_cells w7 (lined 2 t) j u hu
                    have HOWPa := Lib.hid (HOWP.out.alloc (.cells #[.int .i64 t.kind, .int .i64 t.pos, .int .i64 2, .string t.text, .int .i64 t.num] 25))
                    have hoff : (t.kind == 1) = false ∨ ((t.kind == 1) = true ∧ (t.text.toList == [122, 122]) = false) := by
                      cases hk1 : (t.kind == 1) with
                      | false => exact .inl rfl
                      | true =>
                        right
                        refine ⟨rfl, ?_⟩
                        have h := HZF.out
                        have hk2 : t.kind = 1 := by simpa using hk1
                        simp [isZz, hk2] at h
                        have h1 : (t.text.toList == zzB.toList) = false := by rw [beq_text]; simpa using h
                        rwa [show zzB.toList = [122, 122] by simp [zzB, ByteArray.toList_eq]] at h1
                    clear hzz
                    rcases hoff with hk1 | ⟨hk1, htx⟩
                    · go_wp2_with (at_builtin; refine wpList_append_tok rfl _ _ rfl w1.heap.size _ n11 _ rfl HOWPa.out w7.heap.size (lined 2 t) 1 rfl HNC.out (by omega) HRP7a.out.bel.size ?_)
                      intro o8 c8 w8 hown8 hgr8 hfr8
                      have HRP8 : Hid (Row w1 w8 (.slice o8 (n11 + 1) c8) (accP ++ [lined 2 t])) := Lib.hid (HRP7a.out.push (lined 2 t) hgr8 (by rw [← HN11.out]; exact hown8))
                      have HRD8 : Hid (Row w1 w8 (.slice o7 (n6 + 1) c7) (accD ++ [lined 2 t])) := Lib.hid (HRD7a.out.other HRP7a.out hgr8 (ne_flip HNE7.out))
                      have HNE8 : Hid ((Value.slice o8 (n11 + 1) c8).ownBlock = none ∨ (Value.slice o8 (n11 + 1) c8).ownBlock ≠ (Value.slice o7 (n6 + 1) c7).ownBlock) := Lib.hid (ne_next HNE7.out hfr8 fun gg hgg => by have := (HRD7.out.own.lt gg hgg).2; omega)
                      have HACP1 : Hid (plainOf body (ts.take (k + 1)) = accP ++ [lined 2 t]) := Lib.hid (by rw [plainOf_take hlt HTK.out, HZF.out, if_neg (by decide), HACP.out])
                      clear hown8 hgr8 hfr8 y0 y1 y2 y3 y4 HOWP HOWPa HRP7 HRD7 HRP7a HRD7a HBX7 HNE7 HNC
                      go_wp2_with fail
                      go_roundw
                      case rel => exact ⟨k + 1, _, _, _, _, _, _, by go_num, by omega, rfl, rfl, Lib.hid (by have := HN6.out; omega), Lib.hid (by rw [HACP1.out, List.length_append, ← HN11.out]; rfl), by rw [HACD1.out]; exact HRD8, by rw [HACP1.out]; exact HRP8, HNE8, Lib.hid (step_mk HMK.out HTK.out HM1.out)⟩
                      case measure => simp [intOf]; omega
                    · go_wp2_with (at_builtin; refine wpList_append_tok rfl _ _ rfl w1.heap.size _ n11 _ rfl HOWPa.out w7.heap.size (lined 2 t) 1 rfl HNC.out (by omega) HRP7a.out.bel.size ?_)
                      intro o8 c8 w8 hown8 hgr8 hfr8
                      have HRP8 : Hid (Row w1 w8 (.slice o8 (n11 + 1) c8) (accP ++ [lined 2 t])) := Lib.hid (HRP7a.out.push (lined 2 t) hgr8 (by rw [← HN11.out]; exact hown8))
                      have HRD8 : Hid (Row w1 w8 (.slice o7 (n6 + 1) c7) (accD ++ [lined 2 t])) := Lib.hid (HRD7a.out.other HRP7a.out hgr8 (ne_flip HNE7.out))
                      have HNE8 : Hid ((Value.slice o8 (n11 + 1) c8).ownBlock = none ∨ (Value.slice o8 (n11 + 1) c8).ownBlock ≠ (Value.slice o7 (n6 + 1) c7).ownBlock) := Lib.hid (ne_next HNE7.out hfr8 fun gg hgg => by have := (HRD7.out.own.lt gg hgg).2; omega)
                      have HACP1 : Hid (plainOf body (ts.take (k + 1)) = accP ++ [lined 2 t]) := Lib.hid (by rw [plainOf_take hlt HTK.out, HZF.out, if_neg (by decide), HACP.out])
                      clear hown8 hgr8 hfr8 y0 y1 y2 y3 y4 HOWP HOWPa HRP7 HRD7 HRP7a HRD7a HBX7 HNE7 HNC
                      go_wp2_with fail
                      go_roundw
                      case rel => exact ⟨k + 1, _, _, _, _, _, _, by go_num, by omega, rfl, rfl, Lib.hid (by have := HN6.out; omega), Lib.hid (by rw [HACP1.out, List.length_append, ← HN11.out]; rfl), by rw [HACD1.out]; exact HRD8, by rw [HACP1.out]; exact HRP8, HNE8, Lib.hid (step_mk HMK.out HTK.out HM1.out)⟩
                      case measure => simp [intOf]; omega
              · obtain rfl : k = ts.length := by omega
                have hmapD : d0 ++ ts.map (lined 2) = accD := by have h := HACD.out; rwa [List.take_length] at h
                have hform : [tokS, tokD, tokZ] ++ body.map (lined 1) ++ ts.map (lined 2) = accD := by rw [HD0.out]; exact hmapD
                have hpl : plainOf body ts = accP := by have h := HACP.out; rwa [List.take_length] at h
                have hpz : 0 < accD.length := by rw [HLD.out]; have := HN6.out; omega
                have hown := HRD.out.own
                rw [HLD.out] at hown
                obtain ⟨g6, hv6, hg6a, hcD⟩ : ∃ g6, o6 = some ⟨g6, 0, none⟩ ∧ w1.heap.size ≤ g6 ∧ n6 ≤ c6 := by
                  have h := form_of (ts := accD) (by have h := HRD.out.own; exact h) hpz
                  obtain ⟨g6, cap6, hv, h1, h2, h3⟩ := h
                  injection hv with a1 a2 a3
                  exact ⟨g6, a1, h1, by rw [a3]; rw [HLD.out] at h3; exact h3⟩
                have HTD : Toks wr g6 0 accD := toks_of_own (cap := c6) (by have h := HRD.out.own; rw [hv6, ← HLD.out] at h; exact h)
                have HLAW := Lib.hid (once_law g6 c6 body ts wr (by rw [hform]; exact HTD) HG.out HOB.out (fun j h => HMK.out j h h) (by omega) (by omega) (by rw [hform, HLD.out]; exact hcD))
                rw [hform, HLD.out] at HLAW
                have HPL := Lib.hid hpl
                have HRPP := Lib.hid HRP.out
                subst hv6
                clear hmapD hform hpl hpz hown HTD
                go_wp2_with fail
                refine HLAW.out.mono ?_
                rintro e wa ⟨va, us, rfl, hra, hcore, husz⟩
                obtain ⟨ga, ca, rfl, hga, _, hca⟩ := form_of hra.own husz
                have hTa := toks_of_own hra.own
                have hlen : us.length = accP.length := by have h := congrArg List.length hcore; simp only [List.length_map] at h; rw [h, HPL.out]
                have hpz : 0 < accP.length := by omega
                obtain ⟨gp, cp, hvp, _, _, _⟩ := form_of HRPP.out.own hpz
                have hTp : Toks wr gp 0 accP := toks_of_own (by have h := HRPP.out.own; rw [hvp] at h; exact h)
                have HSA := Lib.hid (same_loose ga 0 ca gp 0 cp us accP wa hTa (hTp.below hra.bel) (by rw [hcore, HPL.out]) (by unfold maxLen; have := HN11.out; omega))
                have HBA := Lib.hid (HRPP.out.bel.trans (hra.bel.mono HRPP.out.bel.size))
                injection hvp with a1 a2 a3
                subst a1
                subst a3
                rw [← a2] at HSA
                have hlu : us.length = n11 := by rw [hlen, ← HN11.out]
                rw [hlu] at HSA
                clear hra hcore husz hTa hTp hlen hpz hca a2
                go_wp2_with fail
                refine HSA.out.mono ?_
                rintro e wb ⟨rfl, hbb⟩
                have HBB := Lib.hid (HBA.out.trans (hbb.mono HBA.out.size))
                clear hbb HSA
                go_wp2_with fail
                go_ret
                exact ⟨rfl, HBB.out⟩
end Go.Proofs.Ytojneaffoekpnaa
