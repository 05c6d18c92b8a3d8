/- Macros over tokens that begin with the definition of a macro without parameters, and have no other directive: the tokens behind it, with the macro's for each use. -/
import Derived.Test.YtojneaffoekpnaaLast
namespace Go.Proofs.Ytojneaffoekpnaa
open Go.ChangeShapes Go.WideShapes Go.ChangeAt Go.RowKit
set_option linter.unusedVariables false
set_option linter.unusedSimpArgs false

/-- The three cells of the results, the user, and what holds it, in memory. -/
structure Mad (w W : World) (b r : Nat) (mo : Dic) : Prop where
  made : Made w W b r false mo
  m : W.heap[b + 1]? = some (.cells #[.pointer (some ⟨b, 0, none⟩), .slice none 0 0] 41 (0, 0))
theorem Mad.below {w W W' : World} {b r : Nat} {mo : Dic} (h : Mad w W b r mo) (hb : Below W.heap.size W W') : Mad w W' b r mo :=
  ⟨h.made.below hb, (hb.block _ (lt_of_block h.m)).trans h.m⟩
theorem mad_of {w w1 w2 : World}
    (h1 : Below (((w.alloc (.cells #[.slice none 0 0] 22)).alloc (.cells #[.int .i64 0] 27)).alloc (.cells #[.int .i64 0] 3)).heap.size (((w.alloc (.cells #[.slice none 0 0] 22)).alloc (.cells #[.int .i64 0] 27)).alloc (.cells #[.int .i64 0] 3)) w1)
    (h2 : w2 = (w1.alloc (.map #[] 0)).alloc (.cells #[.bool false, .map (some w1.heap.size), .int .i64 0, .slice none 0 0] 49)) :
    Mad w (w2.alloc (.cells #[.pointer (some ⟨w1.heap.size + 1, 0, none⟩), .slice none 0 0] 41)) (w1.heap.size + 1) w1.heap.size none ∧ w2.heap.size = w1.heap.size + 1 + 1 := by
  have hs : w2.heap.size = w1.heap.size + 1 + 1 := by rw [h2, World.size_alloc, World.size_alloc]
  refine ⟨⟨(made_of h1 h2).below ((Below.refl _ _).alloc (Nat.le_refl _) _), ?_⟩, hs⟩
  have := heap_alloc_new w2 (.cells #[.pointer (some ⟨w1.heap.size + 1, 0, none⟩), .slice none 0 0] 41)
  rwa [hs] at this
/-- Behind a definition. -/
theorem Mad.defined {w W W' : World} {b r : Nat} {mo : Dic} (h : Mad w W b r none) (hr : W'.heap[r]? = some (mapOf mo)) (hg : W.grownBy W' (some r)) (hrb : r + 1 = b) : Mad w W' b r mo := by
  have hne := h.made.hzr
  have hk : ∀ k, k ≠ r → k < W.heap.size → W'.heap[k]? = W.heap[k]? := fun k hk hlt => hg.block k hlt (fun e => hk (by simpa using e))
  have hs := h.made.bel.size
  have hl : r < W.heap.size := lt_of_block h.made.usr.mp
  refine ⟨⟨⟨hg.os.trans h.made.bel.os, hg.tape.trans h.made.bel.tape, hg.output.trans h.made.bel.output, Nat.le_trans hs hg.size, fun k hlt => (hk k (by omega) (by omega)).trans (h.made.bel.block k hlt)⟩, (hk _ (by omega) (by omega)).trans h.made.c0, (hk _ (by omega) (by omega)).trans h.made.c1, (hk _ (by omega) (by omega)).trans h.made.c2, h.made.hb, ⟨(hk _ (by omega) (lt_of_block h.made.usr.obj)).trans h.made.usr.obj, hr⟩, h.made.hrb, h.made.hzr⟩, (hk _ (by omega) (lt_of_block h.m)).trans h.m⟩

/-- Behind what is told: ahead of the last step. -/
def Nea (w W : World) (b base g j : Nat) (v : Value) (ts0 : List TK) (t : TK) : Prop :=
  Near w W b base g j v ts0 t ∧ W.heap[b + 1]? = some (.cells #[.pointer (some ⟨b, 0, none⟩), .slice none 0 0] 41 (0, 0)) ∧ b + 1 < base
theorem nea_of {w W W' : World} {b r g j : Nat} {mo : Dic} {ts0 : List TK} {t : TK} (h : Mad w W b r mo) (hg : g < w.heap.size) (ht : TkAt W g j t) (hT : Told W W' b false r mo ts0) : ∃ v, Nea w W' b W.heap.size g j v ts0 t := by
  obtain ⟨v, hv⟩ := near_of h.made hg ht hT
  exact ⟨v, hv, (hT.1.block _ (lt_of_block h.m) (by simp)).trans h.m, lt_of_block h.m⟩
theorem nea_zero {w W : World} {b r g j : Nat} {mo : Dic} {t : TK} (h : Mad w W b r mo) (hg : g < w.heap.size) (ht : TkAt W g j t) : Nea w W b W.heap.size g j (.slice none 0 0) [] t := by
  have hs := h.made.bel.size
  exact ⟨⟨h.made.bel, h.made.c0, h.made.c1, h.made.c2, h.made.hb, lt_of_block h.made.usr.obj, Nat.le_refl _, hg, (cell_of_row _ _ _ _ _ _ h.made.usr.obj).trans rfl, World.ownsRow_nil _ _ _ _, ht⟩, h.m, lt_of_block h.m⟩
theorem m_kept {w W W2 : World} {b base g j : Nat} {v : Value} {ts0 : List TK} {t : TK} {x0 x1 x2 : Value} (h : Nea w W b base g j v ts0 t) (o : Obj) (hgr : (W.alloc o).drew.grownBy W2 v.ownBlock) :
    W2.cell? ⟨b + 1, 0, none⟩ = some (.pointer (some ⟨b, 0, none⟩)) ∧ (W2.setCell ⟨w.heap.size, 0, none⟩ x0).cell? ⟨b + 1, 0, none⟩ = some (.pointer (some ⟨b, 0, none⟩)) ∧
    ((W2.setCell ⟨w.heap.size, 0, none⟩ x0).setCell ⟨w.heap.size + 1, 0, none⟩ x1).cell? ⟨b + 1, 0, none⟩ = some (.pointer (some ⟨b, 0, none⟩)) ∧
    (((W2.setCell ⟨w.heap.size, 0, none⟩ x0).setCell ⟨w.heap.size + 1, 0, none⟩ x1).setCell ⟨w.heap.size + 1 + 1, 0, none⟩ x2).cell? ⟨b + 1, 0, none⟩ = some (.pointer (some ⟨b, 0, none⟩)) := by
  have e := h.1.hb
  have e2 := h.1.hbase
  have hB0 : Below base W (W.alloc o).drew := (Below.alloc (Below.refl _ _) e2 o).drew
  have hB : Below base W W2 := hB0.trans ((Below.refl base _).grown hgr (Nat.le_trans e2 hB0.size) fun k hk => (h.1.own.lt k hk).1)
  have q0 : W2.cell? ⟨b + 1, 0, none⟩ = some (.pointer (some ⟨b, 0, none⟩)) := (cell_of_row _ _ _ _ _ _ ((hB.block _ h.2.2).trans h.2.1)).trans rfl
  have hne : ∀ (X : World) (z : Nat) (u : Value), z ≠ b + 1 → (X.setCell ⟨z, 0, none⟩ u).cell? ⟨b + 1, 0, none⟩ = X.cell? ⟨b + 1, 0, none⟩ := fun X z u hz => World.cell?_setCell_other X _ _ u (fun e => hz (congrArg Addr.block e))
  exact ⟨q0, (hne _ _ _ (by omega)).trans q0, (hne _ _ _ (by omega)).trans ((hne _ _ _ (by omega)).trans q0), (hne _ _ _ (by omega)).trans ((hne _ _ _ (by omega)).trans ((hne _ _ _ (by omega)).trans q0))⟩

/-- The tokens that begin at a place. -/
theorem Toks.drop {w : World} {g off : Nat} {ts : List TK} (h : Toks w g off ts) (k : Nat) : Toks w g (off + k * 5) (ts.drop k) := by
  refine ⟨h.1, fun i hi => ?_⟩
  have hl : k + i < ts.length := by simp at hi; omega
  have h2 := h.2 (k + i) hl
  rw [List.getElem_drop]
  rw [show off + k * 5 + i * 5 = off + (k + i) * 5 by omega]
  exact h2

set_option maxRecDepth 100000 in
set_option maxHeartbeats 4000000 in
theorem once_any (g off cap : Nat) (s0 d z : TK) (body rest : List TK) (t : TK) (ts : List TK) (hts : ts = (s0 :: d :: z :: body) ++ (rest ++ [t])) (w : World) (ht : Toks w g off ts) (hr : Right ts) (hcap : ts.length ≤ cap)
    (h0 : isMk s0 ⟨#[35]⟩ = true) (hd1 : d.kind = 1) (hd2 : d.text = defineB) (hz1 : z.kind = 1) (hz2 : z.text ≠ definedB) (hbr : ∀ h : 0 < body.length, isMk body[0] ⟨#[40]⟩ = false)
    (hbn : ∀ k ∈ body, ¬ (k.kind = 1 ∧ z.text = k.text)) (hb15 : body.length ≤ 15) (hrn : ∀ k ∈ rest ++ [t], isMk k ⟨#[35]⟩ = false) (hr500 : rest.length ≤ 500)
    (hl1 : ∀ k ∈ d :: z :: body, k.line = s0.line) (hl2 : ∀ k ∈ rest ++ [t], k.line ≠ s0.line) :
    Calls Try.prog 7 #[.slice (some ⟨g, off, none⟩) ts.length cap] w fun e w' => ∃ v, e = .returned (.tuple #[v, .int .i64 0, .int .i64 0]) ∧ Row w w' v (expand (some (z.text, none, 0, 0)) body rest ++ [t]) := by
  have hmf : ∀ (fn : Fn) (first cap : Array Value) (w : World), (Instr.makeFunc fn first cap).run Try.prog w = .ok (.func fn first cap) w := fun _ _ _ _ => rfl
  obtain ⟨h, hh⟩ : ∃ h, h = body.length + 3 := ⟨_, rfl⟩
  obtain ⟨m, hm⟩ : ∃ m, m = h + rest.length := ⟨_, rfl⟩
  have hlen : ts.length = m + 1 := by rw [hts]; simp; omega
  have hz : 0 < ts.length := by omega
  have hn : ts.length ≤ 8192 := by omega
  have HT := Lib.hid ht
  have HE := Lib.hid fun w' (h : Below w.heap.size w w') => ends_any g off cap ts w' (by unfold maxLen; omega) (ht.below h) hr
  have hz0 : ts[0]'hz = s0 := by subst hts; rfl
  have HZ0 : Hid (∀ w', Below w.heap.size w w' → Calls Try.prog 13 #[.pointer (some ⟨0, 0, none⟩), .slice (some ⟨g, off, none⟩) ts.length cap, .int .i64 0] w' fun e w'' => True) := Lib.hid fun w' hb => (at_zero _ g off cap ts w' (ht.below hb) hz (by rw [hz0]; exact h0)).mono fun _ _ _ => trivial
  have HAZ := Lib.hid fun (mp : Value) w' (hb : Below w.heap.size w w') => at_zero mp g off cap ts w' (ht.below hb) hz (by rw [hz0]; exact h0)
  have hget : ∀ i (hi : i < ts.length) (hih : h ≤ i), ts[i] ∈ rest ++ [t] := by
    intro i hi hih
    subst hts
    rw [List.getElem_append_right (by simp; omega)]
    exact List.getElem_mem _
  have hget1 : ∀ i (hi : i < ts.length) (hih : i < h), ts[i].line = ts[0].line := by
    intro i hi hih
    rw [hz0]
    subst hts
    rw [List.getElem_append_left (by simp; omega)]
    have hmem := List.getElem_mem (l := s0 :: d :: z :: body) (n := i) (by simp; omega)
    rcases List.mem_cons.1 hmem with h1 | h1
    · rw [h1]
    · exact hl1 _ h1
  have HLE := Lib.hid fun w' (hb : Below w.heap.size w w') => line_end g off cap ts h w' (ht.below hb) (by unfold maxLen; omega) (by omega) (by omega) hget1 (by
    right
    rw [hz0]
    exact hl2 _ (hget h (by omega) (Nat.le_refl _)))
  have HNO := Lib.hid fun (mp : Value) w' (hb : Below w.heap.size w w') k (hk : k < ts.length) (hkh : h ≤ k) => at_no mp g off cap ts k w' (ht.below hb) hk (hrn _ (hget k hk hkh))
  have htk : ∀ W, Below w.heap.size w W → TkAt W g (off + m * 5) t := fun W hb => by
    have h1 := (ht.below hb).2 m (by omega)
    have e : ts[m]'(by omega) = t := by
      subst hts
      rw [List.getElem_append_right (by simp; omega)]
      rw [List.getElem_append_right (by simp; omega)]
      simp
    rwa [e] at h1
  have HTK := Lib.hid htk
  -- the definition's own tokens
  have hdef : Toks w g (off + 5) (d :: z :: body) := ⟨ht.1, fun i hi => by
    have h1 := ht.2 (i + 1) (by simp at hi; omega)
    have e : ts[i + 1]'(by simp at hi; omega) = (d :: z :: body)[i] := by
      subst hts
      rw [List.getElem_append_left (by simp at hi ⊢; omega)]
      rfl
    rw [e, show off + (i + 1) * 5 = off + 5 + i * 5 by omega] at h1
    exact h1⟩
  have hrest : Toks w g (off + h * 5) rest := ⟨ht.1, fun i hi => by
    have h1 := ht.2 (h + i) (by omega)
    have e : ts[h + i]'(by omega) = rest[i] := by
      subst hts
      rw [List.getElem_append_right (by simp; omega)]
      rw [List.getElem_append_left (by simp; omega)]
      congr 1
      simp
      omega
    rw [e, show off + (h + i) * 5 = off + h * 5 + i * 5 by omega] at h1
    exact h1⟩
  obtain ⟨A, hA⟩ : ∃ A, restA g (off + 5 + 5) (cap - 1 - 1) = A := ⟨_, rfl⟩
  have hbody : BodyAt w A body := by
    rcases Nat.eq_zero_or_pos body.length with hb0 | hb0
    · exact .inl hb0
    · right
      refine ⟨g, off + 15, ?_, ⟨ht.1, fun i hi => ?_⟩⟩
      · rw [← hA]
        unfold restA
        rw [if_neg (by omega)]
      · have h1 := hdef.2 (i + 2) (by simp; omega)
        have e : (d :: z :: body)[i + 2]'(by simp; omega) = body[i] := rfl
        rw [e, show off + 5 + (i + 2) * 5 = off + 15 + i * 5 by omega] at h1
        exact h1
  have hAne : ∀ gg oo, A = some ⟨gg, oo, none⟩ → gg = g := by
    intro gg oo e
    rw [← hA] at e
    unfold restA at e
    split at e <;> (injection e with e; injection e with e1; exact e1.symm)
  obtain ⟨mo, hmo⟩ : ∃ mo : Dic, some (z.text, A, body.length, cap - 1 - 1 - 1) = mo := ⟨_, rfl⟩
  have huse : ∀ k : TK, isUse mo k = isUse (some (z.text, none, 0, 0)) k := fun k => by rw [← hmo]; rfl
  have hexp : ∀ l : List TK, expand mo body l = expand (some (z.text, none, 0, 0)) body l := by
    intro l
    unfold expand
    simp only [huse]
  have hbno : ∀ i (hi : i < body.length), isUse mo body[i] = false := by
    intro i hi
    have h1 := hbn _ (List.getElem_mem hi)
    rw [← hmo]
    simp [isUse]
    intro h2 h3
    exact h1 ⟨h2, h3⟩
  have HDD := Lib.hid fun (mq b r : Nat) (w' : World) (hb : Below w.heap.size w w') (hm0 : w'.cell? ⟨mq, 0, none⟩ = some (.pointer (some ⟨b, 0, none⟩))) (hm1 : w'.cell? ⟨mq, 1, none⟩ = some (.slice none 0 0)) (hu : Usr w' b r false 0 (.slice none 0 0) none) (p : Int) =>
    direct_def mq b r 0 (.slice none 0 0) p g (off + 5) (cap - 1) d z body w' hm0 hm1 hu (hdef.below hb) (by omega) hd1 hd2 hz1 hz2 hbr
  have HPOS : Hid (∀ W, Below w.heap.size w W → W.cell? ⟨g, off + 1, none⟩ = some (.int .i64 s0.pos)) := Lib.hid fun W hb => by
    have h1 := ((ht.below hb).2 0 hz).2.1
    rw [hz0] at h1
    simpa using h1
  have HRT := Lib.hid hrest
  have HBY := Lib.hid hbody
  have HAN := Lib.hid hAne
  have HMO := Lib.hid hmo
  have HEX := Lib.hid hexp
  have HBN := Lib.hid hbno
  have HAA := Lib.hid hA
  have HLEN := Lib.hid hlen
  have HHH := Lib.hid hh
  have HMM := Lib.hid hm
  have hgw : g < w.heap.size := ht.1
  have hsub : IntKind.i64.wrap ((ts.length : Int) - 1) = (m : Int) := by rw [IntWalk.i64_in _ (by omega)]; omega
  have hpos : (0 : Int) < (ts.length : Int) := by omega
  have hmc : (m : Int) ≤ cap := by omega
  have hhm : h ≤ m := by omega
  have hh1 : 1 ≤ h := by omega
  have hh2 : (h : Int) ≤ cap := by omega
  have hcn : ts.length ≤ cap := hcap
  clear ht hr h0 hd1 hd2 hz1 hz2 hbr hbn hrn hl1 hl2 hget hget1 htk hdef hrest hbody hAne hmo huse hexp hbno hz0 hA hlen hh hm hts HZ0
  go_enter_defers Try.func7, Try.ntmps7
  go_wp2_with (first
    | (go_at_call 10; refine (HE.out _ (((( Below.refl _ _).alloc (Nat.le_refl _) _).alloc (by simp) _).alloc (by simp; omega) _)).mono ?_; rintro e w1 ⟨rfl, hb1⟩; have HB1 := Lib.hid hb1; clear hb1)
    | (go_at_call 12; refine (new_any _ _).mono ?_; rintro e w2 ⟨rfl, hb2⟩; have HB2 := Lib.hid hb2; clear hb2))
  obtain ⟨hmad, hsz2⟩ := mad_of HB1.out HB2.out
  have HM := Lib.hid hmad
  clear hmad HE
  rw [hsz2] at *
  clear hsz2 HB1 HB2
  generalize w1.heap.size = r at HM ⊢
  generalize w2.alloc _ = W0 at HM ⊢
  have hm8 : m ≤ 8192 := by have := HLEN.out; omega
  go_loopw [7] (fun i wr => ∃ k : Nat, i = .int .i64 k ∧ ((k = 0 ∧ Hid (Mad w wr (r + 1) r none)) ∨ (k = h ∧ h < m ∧ Hid (Mad w wr (r + 1) r mo)) ∨ (k = m ∧ ∃ base o n c, Hid (Nea w wr (r + 1) base g (off + m * 5) (.slice o n c) (expand mo body rest) t)))) (fun i _ => m - (intOf i).toNat)
  case atStart => exact ⟨0, rfl, .inl ⟨rfl, HM⟩⟩
  case round =>
    obtain ⟨k, rfl, ⟨rfl, HW⟩ | ⟨rfl, hkm, HW⟩ | ⟨rfl, base, o, n, c, HN⟩⟩ := hrel
    · have hm0i : (0 : Int) < (m : Int) := by omega
      have hsz := HW.out.made.bel.size
      have HAZ0 := Lib.hid (HAZ.out (.pointer (some ⟨r + 1 + 1, 0, none⟩)) wr HW.out.made.bel)
      go_wp2_with fail
      refine HAZ0.out.mono ?_
      rintro e w4 ⟨rfl, hb4⟩
      have HW4 := Lib.hid (HW.out.below hb4)
      clear hb4 HAZ0 HW
      have HLE0 := Lib.hid (HLE.out w4 HW4.out.made.bel)
      go_wp2_with fail
      refine HLE0.out.mono ?_
      rintro e w5 ⟨rfl, hb5⟩
      have HW5 := Lib.hid (HW4.out.below hb5)
      clear hb5 HLE0 HW4
      have HP5 := Lib.hid (HPOS.out w5 HW5.out.made.bel)
      have HDD5 := Lib.hid (HDD.out (r + 1 + 1) (r + 1) r w5.drew HW5.out.made.bel.drew ((cell_of_row _ _ _ _ _ _ HW5.out.m).trans rfl) ((cell_of_row _ _ _ _ _ _ HW5.out.m).trans rfl) ⟨HW5.out.made.usr.obj, HW5.out.made.usr.mp⟩ s0.pos)
      rw [HAA.out, HMO.out, show body.length + 1 + 1 = h - 1 by have := HHH.out; omega] at HDD5
      have hck : ¬ cap = 1 := by have := HLEN.out; have := HHH.out; have := HMM.out; omega
      have hh3 : (1 : Int) ≤ h := by omega
      have hw1 : IntKind.i64.wrap 1 = 1 := by decide
      go_wp2_with fail
      go_region_held3 (fun w' => w'.cell? ⟨g, off + 1, none⟩ = some (.int .i64 s0.pos))
        (first | exact HP5.out | assumption)
        (first
          | (go_simp
             go_at_call 15
             refine HDD5.out.mono ?_
             rintro e w6 ⟨rfl, hw6, hg6⟩
             have HW6 := Lib.hid (Mad.defined (W := w5.drew) (HW5.out.below (Below.refl _ _).drew) hw6 hg6 rfl)
             have hs6 := HPOS.out w6 HW6.out.made.bel
             clear hw6 hg6))
      rename_i hh
      clear hh hs6
      go_wp2_with fail
      go_roundw
      case rel =>
        refine ⟨h, rfl, .inr ?_⟩
        by_cases hhm2 : h < m
        · exact .inl ⟨rfl, hhm2, HW6⟩
        · right
          have hrz : rest = [] := List.eq_nil_of_length_eq_zero (by have := HMM.out; omega)
          refine ⟨by omega, w6.heap.size, none, 0, 0, Lib.hid ?_⟩
          rw [hrz]
          exact nea_zero HW6.out hgw (HTK.out _ HW6.out.made.bel)
      case measure => simp [intOf]; omega
    · have hsz := HW.out.made.bel.size
      have HAT0 := Lib.hid (HNO.out (.pointer (some ⟨r + 1 + 1, 0, none⟩)) wr HW.out.made.bel k (by have := HLEN.out; omega) (Nat.le_refl _))
      have hkmi : (k : Int) < (m : Int) := by omega
      go_wp2_with fail
      refine HAT0.out.mono ?_
      rintro e w5 ⟨rfl, hb5⟩
      have HB5 := Lib.hid hb5
      clear hb5 HAT0
      go_wp2_with fail
      go_loopw [9] (fun i wi => ∃ j : Nat, i = .int .i64 j ∧ k + 1 ≤ j ∧ j ≤ m ∧ Hid (Mad w wi (r + 1) r mo)) (fun i _ => m - (intOf i).toNat)
      case atStart => exact ⟨k + 1, by go_num, by omega, by omega, Lib.hid (HW.out.below HB5.out)⟩
      case round =>
        obtain ⟨j, rfl, hj1, hj2, HX⟩ := hrel
        by_cases hlt : j < m
        · have HATk := Lib.hid (HNO.out (.pointer (some ⟨r + 1 + 1, 0, none⟩)) _ HX.out.made.bel j (by have := HLEN.out; omega) (by omega))
          have hlti : (j : Int) < (m : Int) := by omega
          go_wp2_with fail
          refine HATk.out.mono ?_
          rintro e w6 ⟨rfl, hb6⟩
          have HB6 := Lib.hid hb6
          clear hb6 HATk
          go_wp2_with fail
          go_roundw
          case rel => exact ⟨j + 1, by go_num, by omega, by omega, Lib.hid (HX.out.below HB6.out)⟩
          case measure => simp [intOf]; omega
        · obtain rfl : j = m := by omega
          have HKP := Lib.hid fun w' (h : Mad w w' (r + 1) r mo) => keeps_nil (r + 1 + 1) w' ((cell_of_row _ _ _ _ _ _ h.m).trans rfl)
          have hrl : rest.length = j - k := by have := HMM.out; omega
          have HRL := Lib.hid hrl
          have HTT := Lib.hid fun w' (h : Mad w w' (r + 1) r mo) => tell_of (r + 1) r false 0 mo g (off + k * 5) rest.length (cap - k) (expand mo body rest) w' h.made.usr h.made.hrb (by have := expand_le (mo := mo) hb15 rest; omega) (by
            have hu := h.made.usr
            have hzr := h.made.hzr
            rw [← HMO.out] at hu ⊢
            exact whole_uses (r + 1) r (.slice none 0 0) z.text A (cap - 1 - 1 - 1) body g (off + k * 5) (cap - k) rest w'.drew ⟨hu.obj, hu.mp⟩ ((HBY.out.below h.made.bel).below (Below.refl _ _).drew) (fun gg oo e => by have := HAN.out gg oo e; omega) (by have h2 := HBN.out; rw [← HMO.out] at h2; exact h2) hb15 ((HRT.out.below h.made.bel).below (Below.refl _ _).drew) hr500 (by have := HLEN.out; omega) (by omega) (by omega))
          rw [HRL.out] at HTT
          clear hrl
          have hkj : (k : Int) ≤ (j : Int) := by omega
          have hk0 : (0 : Int) ≤ (k : Int) := by omega
          have hck2 : ¬ cap = k := by have := HLEN.out; omega
          go_wp2_with ((go_at_call 16; refine (HKP.out _ HX.out).mono ?_; rintro e w6 ⟨rfl, n6, rfl⟩))
          have HX6 : Hid (Mad w (wr.drewN n6).drew (r + 1) r mo) := Lib.hid (HX.out.below ((bdrew (Below.refl _ _) n6).drew))
          have hl6 : (wr.drewN n6).drew.cell? ⟨r + 1 + 1, 0, none⟩ = some (.pointer (some ⟨r + 1, 0, none⟩)) := (cell_of_row _ _ _ _ _ _ HX6.out.m).trans rfl
          have HL6 := Lib.hid hl6
          clear hl6
          go_region_held3 (fun w' => w'.cell? ⟨r + 1 + 1, 0, none⟩ = some (.pointer (some ⟨r + 1, 0, none⟩)))
            (first | exact HL6.out | assumption)
            (first
              | (go_simp
                 go_at_call 17
                 refine (HTT.out _ HX6.out).mono ?_
                 rintro e W7 ⟨rfl, hT⟩
                 obtain ⟨v, hN⟩ := nea_of HX6.out hgw (HTK.out _ HX6.out.made.bel) hT
                 have hl7 : W7.cell? ⟨r + 1 + 1, 0, none⟩ = some (.pointer (some ⟨r + 1, 0, none⟩)) := (cell_of_row _ _ _ _ _ _ hN.2.1).trans rfl
                 have HN := Lib.hid hN
                 clear hT hN))
          obtain ⟨ov, cv, rfl⟩ := any_form HN.out.1.own
          clear HTT HKP hl7
          go_wp2_with fail
          go_roundw
          case rel => exact ⟨j, rfl, .inr (.inr ⟨rfl, _, _, _, _, HN⟩)⟩
          case measure => simp [intOf]; omega
    · have hop : wr.cell? ⟨r + 1 + 1, 1, none⟩ = some (.slice none 0 0) := (cell_of_row _ _ _ _ _ _ HN.out.2.1).trans rfl
      have hl8 : wr.cell? ⟨r + 1 + 1, 0, none⟩ = some (.pointer (some ⟨r + 1, 0, none⟩)) := (cell_of_row _ _ _ _ _ _ HN.out.2.1).trans rfl
      have HL8 := Lib.hid hl8
      have HLR := Lib.hid (show r + 1 + 1 < wr.heap.size from lt_of_block HN.out.2.1)
      clear hl8
      obtain ⟨L, hL⟩ : ∃ L, (expand mo body rest).length = L := ⟨_, rfl⟩
      have hLb : L ≤ 7500 := by have := expand_le (mo := mo) hb15 rest; omega
      have HLK := Lib.hid hL
      clear hL
      obtain ⟨i26, hi26, ha26, hb26, hc26⟩ := info_parts info25
      have HI26 := Lib.hid (And.intro hi26 (And.intro ha26 (And.intro hb26 hc26)))
      clear hi26 ha26 hb26 hc26
      have HNA := Lib.hid (HN.out.1.alloc (.cells #[.int .i64 t.kind, .int .i64 t.pos, .int .i64 t.line, .string t.text, .int .i64 t.num] 25)).drew
      have hS0 := Lib.hid (And.intro HL8.out HN.out.1.loads)
      have hL9 : (wr.alloc (.cells #[.int .i64 t.kind, .int .i64 t.pos, .int .i64 t.line, .string t.text, .int .i64 t.num] 25)).drew.cell? ⟨r + 1 + 1, 0, none⟩ = some (.pointer (some ⟨r + 1, 0, none⟩)) := (Below.cell (p := ⟨r + 1 + 1, 0, none⟩) ((Below.refl _ _).alloc (Nat.le_refl _) _) HLR.out).trans HL8.out
      have hS1 := Lib.hid (And.intro hL9 HNA.out.loads)
      have hnc : ∀ (j : Nat) (u : Value), (tkCells t)[j]? = some u → (wr.alloc (.cells #[.int .i64 t.kind, .int .i64 t.pos, .int .i64 t.line, .string t.text, .int .i64 t.num] 25)).drew.cell? ((⟨wr.heap.size, 0, none⟩ : Addr).add j) = some u := fun j u hu => new_cells wr t j u hu
      have HNC := Lib.hid hnc
      have hbs := HNA.out.hbase
      have HBS := Lib.hid hbs
      have hkk : (k : Int) < (ts.length : Int) := by have := HLEN.out; omega
      have hk0 : (0 : Int) ≤ (k : Int) := by omega
      clear hnc hbs hL9
      go_wp2_with fail
      go_region_held3 (fun w' => w'.cell? ⟨r + 1 + 1, 0, none⟩ = some (.pointer (some ⟨r + 1, 0, none⟩)) ∧ w'.cell? ⟨r + 1, 3, none⟩ = some (.slice o n c) ∧ w'.cell? ⟨g, off + k * 5, none⟩ = some (.int .i64 t.kind) ∧ w'.cell? ⟨g, off + k * 5 + 1, none⟩ = some (.int .i64 t.pos) ∧ w'.cell? ⟨g, off + k * 5 + 2, none⟩ = some (.int .i64 t.line) ∧ w'.cell? ⟨g, off + k * 5 + 3, none⟩ = some (.string t.text) ∧ w'.cell? ⟨g, off + k * 5 + 4, none⟩ = some (.int .i64 t.num))
        (first | exact hS0.out | exact hS1.out | assumption | exact ⟨by assumption, by assumption⟩)
        (first
          | (refine step_append_lies _ rfl (.tmp 87) (.tmp 92) 22 rfl base 25 i26 zeroTok 5 48 Try.underlying22 HI26.out.1 HI26.out.2.1 HI26.out.2.2.1 HI26.out.2.2.2 rfl (by decide) (.slice o n c) L (cellsOf (expand mo body rest)) (by simp [Act.eval, Act.put]) (by have h := HNA.out.own; rw [HLK.out] at h; exact h) ⟨wr.heap.size, 0, none⟩ 1 1 (tkCells t) (by simp [Act.eval, Act.put]) rfl HNC.out (cells_tk t) (by decide) (by unfold maxLen; omega) (by omega) HBS.out _ rfl ?_
             intro g2 cap2 w2 hown2 hgr2 _ hg2
             have HO2 := Lib.hid hown2
             have HG2 := Lib.hid hgr2
             clear hown2 hgr2
             have hpush := HNA.out.push (g2 := g2) (cap2 := cap2) HG2.out (by rw [HLK.out]; exact HO2.out)
             rw [HLK.out] at hpush
             obtain ⟨⟨p0, p1, p2⟩, ⟨f0, f1, f2⟩, l0, l1, l2, l3⟩ := hpush
             obtain ⟨m0, m1, m2, m3⟩ := m_kept (x0 := .slice (some ⟨g2, 0, none⟩) (L + 1) cap2) (x1 := .int .i64 0) (x2 := .int .i64 0) HN.out _ HG2.out
             have M0 := And.intro m0 l0
             have M1 := And.intro m1 l1
             have M2 := And.intro m2 l2
             have M3 := And.intro m3 l3
             clear m0 m1 m2 m3 l0 l1 l2 l3
             unfold Loads at M0 M1 M2 M3
             simp only [Act.put, List.setIfInBounds_toArray, List.set_cons_zero, List.set_cons_succ]))
      rename_i hh
      clear hh M0 M1 M2 M3 p0 p1 p2 f0 f1 f2 hS0 hS1 hmf
      obtain ⟨W3, hW3⟩ : ∃ W3, ((w2.setCell ⟨w.heap.size, 0, none⟩ (.slice (some ⟨g2, 0, none⟩) (L + 1) cap2)).setCell ⟨w.heap.size + 1, 0, none⟩ (.int .i64 0)).setCell ⟨w.heap.size + 1 + 1, 0, none⟩ (.int .i64 0) = W3 := ⟨_, rfl⟩
      rw [hW3]
      have HW3 := Lib.hid hW3
      clear hW3
      go_wp2_with fail
      refine leaves_cons (f := 11) (args := #[.pointer (some ⟨w.heap.size, 0, none⟩), .pointer (some ⟨w.heap.size + 1, 0, none⟩), .pointer (some ⟨w.heap.size + 1 + 1, 0, none⟩)]) (by simp) (by simp [go_sem]) ?_
      refine (idle10 _ _ _ W3).mono ?_
      rintro e u' W4 ⟨rfl, rfl, hb4⟩
      have hend := HNA.out.ends (g2 := g2) (cap2 := cap2) HG2.out (by rw [HLK.out]; exact HO2.out) W3 W4 (by rw [HLK.out]; exact HW3.out.symm) hb4
      rw [HLK.out, HEX.out] at hend
      obtain ⟨q0, q1, q2, hrow⟩ := hend
      have HROW := Lib.hid hrow
      clear hrow hb4
      simp [Leaves, settle, results, Try.results7, go_sem, q0, q1, q2]
      exact HROW.out
end Go.Proofs.Ytojneaffoekpnaa
