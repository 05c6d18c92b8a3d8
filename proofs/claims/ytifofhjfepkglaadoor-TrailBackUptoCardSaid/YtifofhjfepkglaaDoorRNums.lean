/- The document's reading of a line's numbers. -/
import Derived.Test.YtifofhjfepkglaaDoorRNum
namespace Go.Proofs.YtifofhjfepkglaaDoor
open Go.ChangeShapes Go.WideShapes Go.ChangeAt Go.RowKit
set_option linter.unusedVariables false
set_option linter.unusedSimpArgs false

def strsV (l : List (List UInt8)) : List Value := l.map strV
theorem infoStr : (Tryd.prog.info? 9).map (fun i => (i.zero, i.size, i.bytes)) = some (some (.string ⟨#[]⟩), 1, 16) := by kernel_rfl
theorem strV_one (p : List UInt8) : ∀ u ∈ [strV p], u.oneCell' = true := by
  intro u hu
  simp only [List.mem_singleton] at hu
  subst hu
  rfl
theorem strs_own {w : World} {B : Nat} {v : Value} {l : List (List UInt8)} {n : Nat} (h : w.ownsRow B 9 1 v n (strsV l)) (hl : l.length = n) (hn : 0 < n) : ∃ g cap, v = .slice (some ⟨g, 0, none⟩) n cap ∧ Strs w g l := by
  rcases h.2 with ⟨_, h0⟩ | ⟨g, cap, cur, rfl, hb, hg, h1, h2, h3, h4⟩
  · omega
  · refine ⟨g, cap, rfl, lt_of_block hg, fun i hi => ?_⟩
    have hc := h.cells (g := g) rfl i (strV l[i]) (by simp [strsV, hi])
    have e : (⟨g, 0, none⟩ : Addr).add i = ⟨g, i, none⟩ := by
      cases i <;> simp [Addr.add]
    rw [e] at hc
    exact hc
/-- How far a text has been taken apart. -/
def CutAt (c : UInt8) (s : List UInt8) (acc : List (List UInt8)) (fr i : Nat) : Prop :=
  (i ≤ s.length ∧ fr ≤ i ∧ parts c s = acc ++ parts c (s.drop fr) ∧ ∀ j (h : j < s.length), fr ≤ j → j < i → s[j] ≠ c) ∨ (i = s.length + 1 ∧ acc = parts c s)
def piece (s : List UInt8) (fr i : Nat) : List UInt8 := (s.drop fr).take (i - fr)
theorem extract_piece (s : List UInt8) (fr i : Nat) : (⟨s.toArray⟩ : ByteArray).extract fr i = ⟨(piece s fr i).toArray⟩ := by
  apply ByteArray.ext
  simp [piece, ByteArray.extract, ByteArray.copySlice, List.extract_eq_take_drop]
theorem slice_piece (s : List UInt8) (fr i : Nat) (h1 : fr ≤ i) (h2 : i ≤ s.length) (W : World) : (Instr.slice 9 (.string ⟨s.toArray⟩) (some (.int .i64 (fr : Int))) (some (.int .i64 (i : Int))) none).run Tryd.prog W = .ok (.string ⟨(piece s fr i).toArray⟩) W := by
  have hsz : (⟨s.toArray⟩ : ByteArray).size = s.length := by simp [ByteArray.size]
  have := run_slice_string (P := Tryd.prog) (w := W) 9 ⟨s.toArray⟩ .i64 .i64 (fr : Int) (i : Int) Tryd.underlying9 (by omega) (by omega) (by omega)
  rw [Int.toNat_natCast, Int.toNat_natCast, extract_piece] at this
  exact this
theorem piece_no {c : UInt8} {s : List UInt8} {fr i : Nat} (hi : i ≤ s.length) (h : ∀ j (h : j < s.length), fr ≤ j → j < i → s[j] ≠ c) : ∀ x ∈ piece s fr i, x ≠ c := by
  intro x hx
  unfold piece at hx
  obtain ⟨j, hj, rfl⟩ := List.getElem_of_mem hx
  simp only [List.length_take, List.length_drop] at hj
  rw [List.getElem_take, List.getElem_drop]
  exact h (fr + j) (by omega) (by omega) (by omega)
theorem piece_split {s : List UInt8} {fr i : Nat} (hf : fr ≤ i) (hi : i < s.length) : s.drop fr = piece s fr i ++ s[i] :: s.drop (i + 1) := by
  unfold piece
  have h := List.take_append_drop (i - fr) (s.drop fr)
  rw [List.drop_drop, show fr + (i - fr) = i by omega, List.drop_eq_getElem_cons hi] at h
  exact h.symm
theorem piece_all (s : List UInt8) (fr : Nat) : piece s fr s.length = s.drop fr := by
  unfold piece
  exact List.take_of_length_le (by simp)
theorem cut_zero (c : UInt8) (s : List UInt8) : CutAt c s [] 0 0 := .inl ⟨by omega, by omega, by simp, fun j _ _ h => by omega⟩
theorem cut_on {c : UInt8} {s : List UInt8} {acc : List (List UInt8)} {fr i : Nat} (h : CutAt c s acc fr i) (hi : i < s.length) (hc : s[i] ≠ c) : CutAt c s acc fr (i + 1) := by
  rcases h with ⟨h1, h2, h3, h4⟩ | ⟨h1, _⟩
  · refine .inl ⟨by omega, by omega, h3, fun j hj hf hl => ?_⟩
    by_cases e : j = i
    · subst e
      exact hc
    · exact h4 j hj hf (by omega)
  · omega
theorem cut_hit' {c : UInt8} {s : List UInt8} {acc : List (List UInt8)} {fr i : Nat} (h : CutAt c s acc fr i) (hi : i < s.length) (hc : s[i] = c) : CutAt c s (acc ++ [piece s fr i]) (i + 1) (i + 1) := by
  rcases h with ⟨h1, h2, h3, h4⟩ | ⟨h1, _⟩
  · refine .inl ⟨by omega, by omega, ?_, fun j hj hf hl => by omega⟩
    rw [h3, piece_split h2 hi, hc, parts_hit c _ _ (piece_no h1 h4)]
    simp
  · omega
theorem cut_end {c : UInt8} {s : List UInt8} {acc : List (List UInt8)} {fr : Nat} (h : CutAt c s acc fr s.length) : CutAt c s (acc ++ [piece s fr s.length]) (s.length + 1) (s.length + 1) := by
  rcases h with ⟨h1, h2, h3, h4⟩ | ⟨h1, _⟩
  · refine .inr ⟨rfl, ?_⟩
    have := piece_no h1 h4
    rw [piece_all] at this
    rw [h3, parts_miss c _ this, piece_all]
  · omega
theorem cut_done {c : UInt8} {s : List UInt8} {acc : List (List UInt8)} {fr i : Nat} (h : CutAt c s acc fr i) (hi : s.length < i) : acc = parts c s := by
  rcases h with ⟨h1, _⟩ | ⟨_, h1⟩
  · omega
  · exact h1
theorem cut_fr {c : UInt8} {s : List UInt8} {acc : List (List UInt8)} {fr i : Nat} (h : CutAt c s acc fr i) (hi : i ≤ s.length) : fr ≤ i := by
  rcases h with ⟨_, h1, _⟩ | ⟨h1, _⟩
  · exact h1
  · omega
theorem cut_len {c : UInt8} {s : List UInt8} {acc : List (List UInt8)} {fr i : Nat} (h : CutAt c s acc fr i) : acc.length ≤ s.length + 1 := by
  have h0 := (parts_len c s).1
  rcases h with ⟨_, _, h1, _⟩ | ⟨_, h1⟩
  · rw [h1] at h0
    simp at h0
    omega
  · rw [h1]
    exact h0
theorem c_ne {b : UInt8} (h : ¬ b = 32) : ((b.toNat : Int) == 32) = false := by
  refine beq_eq_false_iff_ne.2 fun e => h (UInt8.toNat_inj.1 ?_)
  have h2 : b.toNat = 32 := by omega
  rw [h2]
  rfl
def NumsP (w : World) (R : Option (List Int)) (e : Ending) (w' : World) : Prop := ∃ v ok, e = .returned (.tuple #[v, .bool ok]) ∧ NumsR w.heap.size w' R v ok ∧ Below w.heap.size w w'

set_option maxHeartbeats 4000000 in
set_option maxRecDepth 100000 in
theorem rnumbers_any (s word : List UInt8) (n : Nat) (w : World) (hs : s.length ≤ 400000000) (hn : n ≤ 10) (hn0 : 0 < n) :
    Calls Tryd.prog 17 #[.string ⟨s.toArray⟩, .string ⟨word.toArray⟩, .int .i64 n] w (NumsP w (numsOf s word n)) := by
  obtain ⟨R, hR⟩ : ∃ R, numsOf s word n = R := ⟨_, rfl⟩
  rw [hR]
  have HR := Lib.hid hR
  clear hR
  obtain ⟨i3, hi, hz0, hsz, hby⟩ := info_parts infoInt
  have HI := Lib.hid (And.intro hi (And.intro hz0 (And.intro hsz hby)))
  clear hi hz0 hsz hby
  obtain ⟨i9, hi, hz0, hsz, hby⟩ := info_parts infoStr
  have HI9 := Lib.hid (And.intro hi (And.intro hz0 (And.intro hsz hby)))
  clear hi hz0 hsz hby
  go_enter Tryd.func17, Tryd.ntmps17
  go_wp2_with fail
  go_loopw [8, 9, 10] (fun lv fv iv wr => ∃ (acc : List (List UInt8)) (fr i n : Nat) (o : Option Addr) (cap : Nat), lv = .slice o n cap ∧ fv = .int .i64 fr ∧ iv = .int .i64 i ∧ n ≤ s.length + 1 ∧ i ≤ s.length + 1 ∧ Hid (acc.length = n) ∧ Hid (CutAt 32 s acc fr i) ∧ Hid (wr.ownsRow w.heap.size 9 1 lv n (strsV acc)) ∧ Hid (Below w.heap.size w wr)) (fun _ _ i _ => s.length + 1 - (intOf i).toNat)
  case atStart => exact ⟨[], 0, 0, 0, none, 0, rfl, rfl, rfl, by omega, by omega, Lib.hid rfl, Lib.hid (cut_zero _ _), Lib.hid (World.ownsRow_nil _ _ _ _), Lib.hid (Below.refl _ _)⟩
  case round =>
    obtain ⟨acc, fr, i, m, o, cap, rfl, rfl, rfl, hm, hi, HLN, HC, HO, HB⟩ := hrel
    by_cases hlt : i ≤ s.length
    · have hfr := cut_fr HC.out hlt
      have hlti : (i : Int) ≤ s.length := by omega
      have hfi : (fr : Int) ≤ i := by omega
      have h0i : (0 : Int) ≤ i := by omega
      have h0f : (0 : Int) ≤ fr := by omega
      have hex := fun W => slice_piece s fr i hfr hlt W
      obtain ⟨pc, hpc⟩ : ∃ pc, piece s fr i = pc := ⟨_, rfl⟩
      rw [hpc] at hex
      have HPC := Lib.hid hpc
      clear hpc
      by_cases hend : i = s.length
      · have hendi : ((i : Int) == s.length) = true := by simp [hend]
        have HCC : Hid (CutAt 32 s (acc ++ [pc]) (i + 1) (i + 1)) := Lib.hid (by rw [← HPC.out, hend]; rw [hend] at HC; exact cut_end HC.out)
        clear hend
        have HA := Lib.hid (HO.out.alloc (.cells #[.string ⟨pc.toArray⟩] 9))
        have HNC : Hid ((wr.alloc (.cells #[.string ⟨pc.toArray⟩] 9)).heap[wr.heap.size]? = some (.cells #[.string ⟨pc.toArray⟩] 9 (0, 0))) := Lib.hid (heap_alloc_new wr _)
        have HB4 := Lib.hid (HB.out.alloc HB.out.size (.cells #[.string ⟨pc.toArray⟩] 9))
        go_wp2_with (at_builtin; refine wpList_append_own _ rfl _ _ 61 rfl w.heap.size 9 i9 (.string ⟨#[]⟩) 1 16 Tryd.underlying61 HI9.out.1 HI9.out.2.1 HI9.out.2.2.1 HI9.out.2.2.2 rfl (by decide) _ _ _ rfl HA.out ⟨wr.heap.size, 0, none⟩ 1 1 [.string ⟨pc.toArray⟩] rfl rfl ?c1 ?c2 ?c3 ?c4 ?c5 ?_)
        case c1 => exact fun j u hu => one_cells HNC.out j u hu
        case c2 => exact strV_one pc
        case c3 => unfold maxLen; omega
        case c4 => omega
        case c5 => exact HB4.out.size
        intro v2 w5 hown hgrow _
        obtain ⟨o2, c2, rfl⟩ := own_form hown
        have HO5 := Lib.hid hown
        have HB5 := Lib.hid (HB4.out.grown hgrow HB4.out.size fun k hk => (HA.out.lt k hk).1)
        clear hown hgrow
        go_wp2_with fail
        go_roundw
        case rel =>
          refine ⟨acc ++ [pc], i + 1, i + 1, m + 1, o2, c2, rfl, by go_num, by go_num, ?_, by omega, Lib.hid (by simp [HLN.out]), HCC, Lib.hid (by have h := HO5.out; simpa [strsV, strV] using h), HB5⟩
          have h := cut_len HCC.out
          rw [List.length_append, HLN.out] at h
          exact h
        case measure => simp [intOf]; omega
      · have hl2 : i < s.length := by omega
        have hendi : ((i : Int) == s.length) = false := by simp; omega
        have hl2i : (i : Int) < s.length := by omega
        have hcu := bt_at s i hl2
        obtain ⟨c, hc⟩ : ∃ c, s[i] = c := ⟨_, rfl⟩
        rw [hc] at hcu
        by_cases h32' : c = 32
        · have h32 : s[i] = 32 := by rw [hc, h32']
          have hcb : ((c.toNat : Int) == 32) = true := by rw [h32']; rfl
          clear hc h32'
          have HCC : Hid (CutAt 32 s (acc ++ [pc]) (i + 1) (i + 1)) := Lib.hid (by rw [← HPC.out]; exact cut_hit' HC.out hl2 h32)
          have HA := Lib.hid (HO.out.alloc (.cells #[.string ⟨pc.toArray⟩] 9))
          have HNC : Hid ((wr.alloc (.cells #[.string ⟨pc.toArray⟩] 9)).heap[wr.heap.size]? = some (.cells #[.string ⟨pc.toArray⟩] 9 (0, 0))) := Lib.hid (heap_alloc_new wr _)
          have HB4 := Lib.hid (HB.out.alloc HB.out.size (.cells #[.string ⟨pc.toArray⟩] 9))
          go_wp2_with (at_builtin; refine wpList_append_own _ rfl _ _ 61 rfl w.heap.size 9 i9 (.string ⟨#[]⟩) 1 16 Tryd.underlying61 HI9.out.1 HI9.out.2.1 HI9.out.2.2.1 HI9.out.2.2.2 rfl (by decide) _ _ _ rfl HA.out ⟨wr.heap.size, 0, none⟩ 1 1 [.string ⟨pc.toArray⟩] rfl rfl ?c1 ?c2 ?c3 ?c4 ?c5 ?_)
          case c1 => exact fun j u hu => one_cells HNC.out j u hu
          case c2 => exact strV_one pc
          case c3 => unfold maxLen; omega
          case c4 => omega
          case c5 => exact HB4.out.size
          intro v2 w5 hown hgrow _
          obtain ⟨o2, c2, rfl⟩ := own_form hown
          have HO5 := Lib.hid hown
          have HB5 := Lib.hid (HB4.out.grown hgrow HB4.out.size fun k hk => (HA.out.lt k hk).1)
          clear hown hgrow
          go_wp2_with fail
          go_roundw
          case rel =>
            refine ⟨acc ++ [pc], i + 1, i + 1, m + 1, o2, c2, rfl, by go_num, by go_num, ?_, by omega, Lib.hid (by simp [HLN.out]), HCC, Lib.hid (by have h := HO5.out; simpa [strsV, strV] using h), HB5⟩
            have h := cut_len HCC.out
            rw [List.length_append, HLN.out] at h
            exact h
          case measure => simp [intOf]; omega
        · have hcb : ((c.toNat : Int) == 32) = false := c_ne h32'
          have HCC : Hid (CutAt 32 s acc fr (i + 1)) := Lib.hid (cut_on HC.out hl2 (by rw [hc]; exact h32'))
          clear hc h32'
          go_wp2_with fail
          go_roundw
          case rel => exact ⟨acc, fr, i + 1, m, o, cap, rfl, rfl, by go_num, hm, by omega, HLN, HCC, HO, HB⟩
          case measure => simp [intOf]; omega
    · have hlti : ¬ (i : Int) ≤ s.length := by omega
      have hacc := cut_done HC.out (by omega)
      obtain ⟨p, ps, hp⟩ := parts_head s
      rw [hp] at hacc
      subst hacc
      obtain ⟨g, cap', hsl, hS⟩ := strs_own HO.out HLN.out (by have := HLN.out; simp at this; omega)
      injection hsl with h1 h2 h3
      subst h1 h3
      have hN : numsOf s word n = if ps.length = n ∧ p = word then ps.mapM num else none := by unfold numsOf; rw [hp]
      rw [HR.out] at hN
      have HN := Lib.hid hN
      have HS := Lib.hid hS
      have c0 : wr.cell? ⟨g, 0, none⟩ = some (.string ⟨p.toArray⟩) := hS.2 0 (by simp)
      obtain rfl : ps.length + 1 = m := by have := HLN.out; simpa using this
      have HPP := Lib.hid hp
      clear hp hS hN h2
      have HLEN := Lib.hid (parts_len 32 s).2
      by_cases h2 : p = word
      · by_cases h1 : ps.length = n
        · have hN := HN.out
          rw [if_pos ⟨h1, h2⟩] at hN
          have HN2 := Lib.hid hN
          clear hN HN
          subst h1 h2
          have hz : ¬ ps.length = 0 := by omega
          obtain ⟨w1, hw1⟩ : ∃ w1, w1 = wr := ⟨_, rfl⟩
          subst hw1
          go_wp2_with fail
          go_loopw [11, 12] (fun v i wq => ∃ (k : Nat) (l : List Int) (o : Option Addr) (cap : Nat), i = .int .i64 (1 + k : Nat) ∧ v = .slice o k cap ∧ k ≤ ps.length ∧ Hid ((ps.take k).mapM num = some l) ∧ Hid (wq.ownsRow w1.heap.size 3 1 v k (intsV l)) ∧ Hid (Below w1.heap.size w1 wq)) (fun _ i _ => ps.length + 1 - (intOf i).toNat)
          case atStart => exact ⟨0, [], none, 0, rfl, rfl, by omega, Lib.hid rfl, Lib.hid (World.ownsRow_nil _ _ _ _), Lib.hid (Below.refl _ _)⟩
          case round =>
            obtain ⟨k, l, o, cap, rfl, rfl, hk, HL, HO2, HBq⟩ := hrel
            by_cases hlt : k < ps.length
            · obtain ⟨q, hq⟩ : ∃ q, ps[k] = q := ⟨_, rfl⟩
              have hS := HS.out.below HBq.out
              have c1 : wr.cell? ⟨g, 1 + k, none⟩ = some (.string ⟨q.toArray⟩) := by
                have h := hS.2 (k + 1) (by simp; omega)
                simp only [List.getElem_cons_succ, hq] at h
                rw [Nat.add_comm 1 k]
                exact h
              have hql : q.length ≤ s.length := HLEN.out q (by rw [HPP.out, ← hq]; simp)
              have HQ := Lib.hid hq
              have HP := Lib.hid (rnum_any q wr (by omega))
              have hlti : ((1 + k : Nat) : Int) < (ps.length : Int) + 1 := by omega
              have hk0 : (0 : Int) ≤ (1 + k : Nat) := by omega
              clear hq hS
              go_wp2_with fail
              refine HP.out.mono ?_
              rintro e w3 ⟨v, ok, rfl, hnp, hb3⟩
              have HB3 := Lib.hid (HBq.out.trans (hb3.mono HBq.out.size))
              have HO3 := Lib.hid (own_below HO2.out hb3)
              clear hb3 c1
              cases hnq : num q with
              | none =>
                rw [hnq] at hnp
                have hnp2 : ok = false := hnp
                subst hnp2
                have HNQ := Lib.hid hnq
                clear hnq hnp
                go_wp2_with fail
                go_ret2
                exact ⟨_, _, rfl, by rw [HN2.out, mapM_none hlt (by rw [HQ.out]; exact HNQ.out)]; exact ⟨rfl, rfl⟩, HB.out.trans (HB3.out.mono HB.out.size)⟩
              | some vv =>
                rw [hnq] at hnp
                obtain ⟨h5, h6⟩ : ok = true ∧ v = vv := hnp
                subst h5 h6
                have HNQ := Lib.hid hnq
                clear hnq
                have HO4 := Lib.hid (HO3.out.alloc (.cells #[.int .i64 v] 3))
                have HNC : Hid ((w3.alloc (.cells #[.int .i64 v] 3)).heap[w3.heap.size]? = some (.cells #[.int .i64 v] 3 (0, 0))) := Lib.hid (heap_alloc_new w3 _)
                have HB4 := Lib.hid (HB3.out.alloc HB3.out.size (.cells #[.int .i64 v] 3))
                go_wp2_with (at_builtin; refine wpList_append_own _ rfl _ _ 50 rfl w1.heap.size 3 i3 (.int .i64 0) 1 8 Tryd.underlying50 HI.out.1 HI.out.2.1 HI.out.2.2.1 HI.out.2.2.2 rfl (by decide) _ _ _ rfl HO4.out ⟨w3.heap.size, 0, none⟩ 1 1 [.int .i64 v] rfl rfl ?c1 ?c2 ?c3 ?c4 ?c5 ?_)
                case c1 => exact fun j u hu => one_cells HNC.out j u hu
                case c2 => exact intsV_one [v]
                case c3 => unfold maxLen; omega
                case c4 => omega
                case c5 => exact HB4.out.size
                intro v2 w5 hown hgrow _
                obtain ⟨o2, c2, rfl⟩ := own_form hown
                have HO5 := Lib.hid hown
                have HB5 := Lib.hid (HB4.out.grown hgrow HB4.out.size fun k hk => (HO4.out.lt k hk).1)
                clear hown hgrow
                go_wp2_with fail
                go_roundw
                case rel => exact ⟨k + 1, l ++ [v], o2, c2, by go_num, rfl, by omega, Lib.hid (mapM_snoc hlt HL.out (by rw [HQ.out]; exact HNQ.out)), Lib.hid (by have h := HO5.out; simpa [intsV] using h), HB5⟩
                case measure => simp [intOf]; omega
            · obtain rfl : k = ps.length := by omega
              have hlti : ¬ ((1 + ps.length : Nat) : Int) < (ps.length : Int) + 1 := by omega
              go_wp2_with fail
              go_ret2
              refine ⟨_, _, rfl, ?_, HB.out.trans (HBq.out.mono HB.out.size)⟩
              have h := HL.out
              rw [List.take_length] at h
              have hl := mapM_length h
              rw [HN2.out, h]
              refine ⟨rfl, ?_⟩
              rw [hl]
              exact own_mono HO2.out HB.out.size
        · have hN := HN.out
          rw [if_neg (by simp [h1])] at hN
          have HN2 := Lib.hid hN
          have h1i : ¬ ((ps.length : Int) + 1 = (n : Int) + 1) := by omega
          subst h2
          clear hN
          go_wp2_with fail
          go_ret2
          exact ⟨_, _, rfl, by rw [HN2.out]; exact ⟨rfl, rfl⟩, HB.out⟩
      · have h2b : (p == word) = false := by simpa using h2
        have hN := HN.out
        rw [if_neg (by simp [h2])] at hN
        have HN2 := Lib.hid hN
        clear hN
        go_wp2_with fail
        go_ret2
        exact ⟨_, _, rfl, by rw [HN2.out]; exact ⟨rfl, rfl⟩, HB.out⟩
end Go.Proofs.YtifofhjfepkglaaDoor
