/- The program's reading of a line: cut, numbers. -/
import Derived.Test.YtifofhjfepkglaaDoorNum
namespace Go.Proofs.YtifofhjfepkglaaDoor
open Go.ChangeShapes Go.WideShapes Go.ChangeAt Go.RowKit
set_option linter.unusedVariables false
set_option linter.unusedSimpArgs false

theorem own_below {w w' : World} {B : Nat} {e : TypeId} {z : Nat} {v : Value} {n : Nat} {xs : List Value} (h : w.ownsRow B e z v n xs) (hb : Below w.heap.size w w') : w'.ownsRow B e z v n xs :=
  h.kept (row := none) ⟨hb.os, hb.tape, hb.output, hb.size, fun k hk _ => hb.block k hk⟩ (by cases v.ownBlock <;> simp)
theorem own_mono {w : World} {B B' : Nat} {e : TypeId} {z : Nat} {v : Value} {n : Nat} {xs : List Value} (h : w.ownsRow B e z v n xs) (hb : B' ≤ B) : w.ownsRow B' e z v n xs :=
  ⟨h.1, h.2.imp id fun ⟨g, cap, cur, h1, h2, h3⟩ => ⟨g, cap, cur, h1, Nat.le_trans hb h2, h3⟩⟩
theorem own_form {w : World} {B : Nat} {e : TypeId} {z : Nat} {v : Value} {n : Nat} {xs : List Value} (h : w.ownsRow B e z v n xs) : ∃ o cap, v = .slice o n cap := by
  rcases h.2 with ⟨rfl, rfl⟩ | ⟨g, cap, cur, rfl, _⟩
  · exact ⟨_, _, rfl⟩
  · exact ⟨_, _, rfl⟩

theorem one_cells {w : World} {g : Nat} {v : Value} {e : TypeId} (h : w.heap[g]? = some (.cells #[v] e (0, 0))) (j : Nat) (u : Value) (hu : [v][j]? = some u) : w.cell? ((⟨g, 0, none⟩ : Addr).add j) = some u := by
  obtain rfl : j = 0 := by
    cases j with
    | zero => rfl
    | succ j => simp at hu
  simp at hu
  subst hu
  exact (cell_of_row _ _ _ _ _ _ h).trans rfl

set_option maxHeartbeats 1000000 in
set_option maxRecDepth 100000 in
theorem cut_any (s : List UInt8) (w : World) (hs : s.length < 4294967281) (hv : Vars w) :
    Calls Tryd.prog 15 #[.string ⟨s.toArray⟩] w fun e w' => e = .returned (.tuple #[.string ⟨(Lib.cut s [10]).1.toArray⟩, .bool (Lib.cut s [10]).2.2]) ∧ Below w.heap.size w w' := by
  obtain ⟨m, hm⟩ := hv.max
  have hC := Lib.hid ((Tryd.strings_Cut ⟨s.toArray⟩ ⟨#[10]⟩ m w (by simpa [ByteArray.size] using hs) hm))
  obtain ⟨c, hc⟩ : ∃ c, Lib.cut s [10] = c := ⟨_, rfl⟩
  have hC2 : Hid (Calls Tryd.prog 22 #[.string ⟨s.toArray⟩, .string ⟨#[10]⟩] w fun e w' => e = .returned (.tuple #[.string ⟨c.1.toArray⟩, .string ⟨c.2.1.toArray⟩, .bool c.2.2]) ∧ ∃ n, w' = w.drewN n) := Lib.hid (by
    have := hC.out
    simp only [List.toList_toArray] at this
    rw [hc] at this
    exact this)
  rw [hc]
  clear hC hm
  go_enter Tryd.func15, Tryd.ntmps15
  go_wp2_with fail
  refine hC2.out.mono ?_
  rintro e w1 ⟨rfl, n, rfl⟩
  have HB := Lib.hid (bdrew (Below.refl w.heap.size w) n)
  go_wp2_with fail
  go_ret2
  exact ⟨rfl, HB.out⟩

set_option maxHeartbeats 4000000 in
set_option maxRecDepth 100000 in
theorem numbers_any (s word : List UInt8) (n : Nat) (w : World) (hs : s.length ≤ 400000000) (hn : n ≤ 10) (hn0 : 0 < n) (henv : Env w) :
    Calls Tryd.prog 16 #[.string ⟨s.toArray⟩, .string ⟨word.toArray⟩, .int .i64 n] w fun e w' => ∃ v ok, e = .returned (.tuple #[v, .bool ok]) ∧ NumsR w.heap.size w' (numsOf s word n) v ok ∧ Below w.heap.size w w' := by
  have HE := Lib.hid henv
  have HSP := Lib.hid (split_any s w (by omega) henv.now)
  obtain ⟨p, ps, hp⟩ := parts_head s
  have hlen := parts_len 32 s
  have hN : numsOf s word n = if ps.length = n ∧ p = word then ps.mapM num else none := by unfold numsOf; rw [hp]
  rw [hp] at HSP hlen
  rw [hN]
  clear hN
  obtain ⟨R, hR⟩ : ∃ R, (if ps.length = n ∧ p = word then ps.mapM num else none) = R := ⟨_, rfl⟩
  rw [hR]
  have HR := Lib.hid hR
  simp only [List.length_cons] at HSP hlen
  have HLEN := Lib.hid hlen.2
  have hpl := hlen.1
  obtain ⟨i3, hi, hz0, hsz, hby⟩ := info_parts infoInt
  have HI := Lib.hid (And.intro hi (And.intro hz0 (And.intro hsz hby)))
  clear hR hlen hp henv hi hz0 hsz hby
  go_enter Tryd.func16, Tryd.ntmps16
  go_wp2_with fail
  refine HSP.out.mono ?_
  rintro e w1 ⟨g, rfl, hS, hb1⟩
  have HS := Lib.hid hS
  have HB1 := Lib.hid hb1
  have c0 : w1.cell? ⟨g, 0, none⟩ = some (.string ⟨p.toArray⟩) := hS.2 0 (by simp)
  clear hS hb1 HSP
  by_cases h1 : ps.length = n
  · by_cases h2 : p = word
    · rw [if_pos ⟨h1, h2⟩] at HR
      subst h1 h2
      have hz : ¬ ps.length = 0 := by omega
      go_wp2_with fail
      go_loopw [9, 31] (fun v i wr => ∃ (k : Nat) (l : List Int) (o : Option Addr) (cap : Nat), i = .int .i64 k ∧ v = .slice o k cap ∧ k ≤ ps.length ∧ Hid ((ps.take k).mapM num = some l) ∧ Hid (wr.ownsRow w1.heap.size 3 1 v k (intsV l)) ∧ Hid (Below w1.heap.size w1 wr)) (fun _ i _ => ps.length - (intOf i).toNat)
      case atStart => exact ⟨0, [], none, 0, rfl, rfl, by omega, Lib.hid rfl, Lib.hid (World.ownsRow_nil _ _ _ _), Lib.hid (Below.refl _ _)⟩
      case round =>
        obtain ⟨k, l, o, cap, rfl, rfl, hk, HL, HO, HB⟩ := hrel
        by_cases hlt : k < ps.length
        · obtain ⟨q, hq⟩ : ∃ q, ps[k] = q := ⟨_, rfl⟩
          have hS := HS.out.below HB.out
          have c1 : wr.cell? ⟨g, 1 + k, none⟩ = some (.string ⟨q.toArray⟩) := by
            have h := hS.2 (k + 1) (by simp; omega)
            simp only [List.getElem_cons_succ, hq] at h
            rw [Nat.add_comm 1 k]
            exact h
          have hql : q.length ≤ s.length := HLEN.out q (by rw [← hq]; simp)
          have HQ := Lib.hid hq
          have HBw := Lib.hid (HB1.out.trans (HB.out.mono HB1.out.size))
          have HP := Lib.hid (parseInt_any q wr (by omega) (HE.out.below HBw.out).now)
          have hlti : (k : Int) < ps.length := by omega
          have hk0 : (0 : Int) ≤ k := by omega
          clear hq hS
          go_wp2_with fail
          refine HP.out.mono ?_
          rintro e w2 ⟨v, ev, rfl, hor, hb2⟩
          have HB2 := Lib.hid (HB.out.trans (hb2.mono HB.out.size))
          have HO2 := Lib.hid (own_below HO.out hb2)
          clear hb2 c1
          rcases hor with ⟨rfl, hpi⟩ | ⟨⟨pv, rfl⟩, hnn⟩
          · have hin := parse_in hpi
            have HFI := Lib.hid (formatInt_any v hin w2 (HE.out.below (HB1.out.trans (HB2.out.mono HB1.out.size))).now.tab)
            have HPI := Lib.hid (num_ok hpi)
            obtain ⟨it, hit⟩ : ∃ it, Lib.itoa v = it := ⟨_, rfl⟩
            rw [hit] at HFI HPI
            clear hpi hit
            go_wp2_with fail
            refine HFI.out.mono ?_
            rintro e w3 ⟨rfl, hb3⟩
            have HB3 := Lib.hid (HB2.out.trans (hb3.mono HB2.out.size))
            have HO3 := Lib.hid (own_below HO2.out hb3)
            clear hb3 HFI
            by_cases he : it = q
            · rw [if_pos he] at HPI
              subst he
              have HO4 := Lib.hid (HO3.out.alloc (.cells #[.int .i64 v] 3))
              have HNC : Hid ((w3.alloc (.cells #[.int .i64 v] 3)).heap[w3.heap.size]? = some (.cells #[.int .i64 v] 3 (0, 0))) := Lib.hid (heap_alloc_new w3 _)
              have HB4 := Lib.hid (HB3.out.alloc HB3.out.size (.cells #[.int .i64 v] 3))
              go_wp2_with (at_builtin; refine wpList_append_own _ rfl _ _ 50 rfl w1.heap.size 3 i3 (.int .i64 0) 1 8 Tryd.underlying50 HI.out.1 HI.out.2.1 HI.out.2.2.1 HI.out.2.2.2 rfl (by decide) _ _ _ rfl HO4.out ⟨w3.heap.size, 0, none⟩ 1 1 [.int .i64 v] rfl rfl ?c1 ?c2 ?c3 ?c4 ?c5 ?_)
              case c1 => exact fun j u hu => one_cells HNC.out j u hu
              case c2 => exact intsV_one [v]
              case c3 => unfold maxLen; omega
              case c4 => omega
              case c5 => exact HB4.out.size
              intro v2 w5 hown hgrow _
              obtain ⟨o2, c2, rfl⟩ := own_form hown
              have HO5 := Lib.hid hown
              have HB5 := Lib.hid (HB4.out.grown hgrow HB4.out.size fun k hk => (HO4.out.lt k hk).1)
              clear hown hgrow
              go_wp2_with fail
              go_roundw
              case rel => exact ⟨k + 1, l ++ [v], o2, c2, by go_num, rfl, by omega, Lib.hid (mapM_snoc hlt HL.out (by rw [HQ.out]; exact HPI.out)), Lib.hid (by have h := HO5.out; simpa [intsV] using h), HB5⟩
              case measure => simp [intOf]; omega
            · have heb : (it == q) = false := by simpa using he
              rw [if_neg he] at HPI
              go_wp2_with fail
              go_ret2
              exact ⟨_, _, rfl, by rw [← HR.out, mapM_none hlt (by rw [HQ.out]; exact HPI.out)]; exact ⟨rfl, rfl⟩, HB1.out.trans (HB3.out.mono HB1.out.size)⟩
          · go_wp2_with fail
            go_ret2
            exact ⟨_, _, rfl, by rw [← HR.out, mapM_none hlt (by rw [HQ.out]; exact hnn)]; exact ⟨rfl, rfl⟩, HB1.out.trans (HB2.out.mono HB1.out.size)⟩
        · obtain rfl : k = ps.length := by omega
          go_wp2_with fail
          go_ret2
          refine ⟨_, _, rfl, ?_, HB1.out.trans (HB.out.mono HB1.out.size)⟩
          have h := HL.out
          rw [List.take_length] at h
          have hl := mapM_length h
          rw [← HR.out, h]
          refine ⟨rfl, ?_⟩
          rw [hl]
          exact own_mono HO.out HB1.out.size
    · have h2b : (p == word) = false := by simpa using h2
      rw [if_neg (by simp [h2])] at HR
      subst h1
      go_wp2_with fail
      go_ret2
      exact ⟨_, _, rfl, by rw [← HR.out]; exact ⟨rfl, rfl⟩, HB1.out⟩
  · rw [if_neg (by simp [h1])] at HR
    have h1i : ¬ ((ps.length : Int) + 1 = (n : Int) + 1) := by omega
    go_wp2_with fail
    go_ret2
    exact ⟨_, _, rfl, by rw [← HR.out]; exact ⟨rfl, rfl⟩, HB1.out⟩
end Go.Proofs.YtifofhjfepkglaaDoor
