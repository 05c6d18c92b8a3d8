/- The contract of the document's Tokens. -/
import Derived.Test.YtojneaffoekpnaaLTokA
namespace Go.Proofs.Ytojneaffoekpnaa.lx
set_option linter.unusedVariables false
set_option linter.unusedSimpArgs false
open Go.ChangeShapes Go.WideShapes Go.ChangeAt Go.RowKit

theorem blank_as (u : ByteArray) (k : Nat) (w : World) (hs : u.size ≤ 65535) (hk : k < u.size) (V : Value) (h : Hid (blankV (blankAt u k) = V)) :
    Calls Try.prog 26 #[.string u, .int .i64 k] w fun e w' => e = .returned V ∧ w' = w := by
  rw [← h.out]; exact blank_any u k w hs hk
theorem next_as (u : ByteArray) (k : Nat) (w : World) (hs : u.size ≤ 65535) (hk : k < u.size) (V : Value) (h : Hid (nextV (tokAt u k) k = V)) :
    Calls Try.prog 27 #[.string u, .int .i64 k] w fun e w' => e = .returned V ∧ Below w.heap.size w w' := by
  rw [← h.out]; exact next_any u k w hs hk

theorem blank_one (u : ByteArray) (k n j : Nat) (h : blankAt u k = some (n, j)) : j ≤ 1 := by
  unfold blankAt at h
  split at h
  · cases h; omega
  split at h
  · cases h; omega
  split at h
  · cases h; omega
  split at h
  · cases hf : find2 42 47 (u.data.toList.drop (k + 2)) with
    | none => rw [hf] at h; cases h
    | some i => rw [hf] at h; cases h; omega
  split at h
  · cases h; omega
  · cases h; omega
theorem blank_lines (u : ByteArray) (k n j : Nat) (h : blankAt u k = some (n, j)) (hn : 0 < n) : j ≤ n := by
  have := blank_one u k n j h
  omega

set_option maxRecDepth 100000 in
set_option maxHeartbeats 2000000 in
theorem tokensR (u : ByteArray) (w0 : World) (hs : u.size ≤ 65535) (ts : List TK) (e p : Nat) (hL : Lx u 0 1 0 ts e p) :
    Calls Try.prog 19 #[.string u] w0 (ToksP w0 ts e p) := by
  have HL := Lib.hid hL
  clear hL
  obtain ⟨i27, hi27, ha27, hb27, hc27⟩ := info_parts info27
  have HI := Lib.hid (And.intro hi27 (And.intro ha27 (And.intro hb27 hc27)))
  clear hi27 ha27 hb27 hc27
  have hsi : (u.size : Int) ≤ 65535 := by omega
  go_enter Try.func19, Try.ntmps19
  go_wp2
  go_loopw [5, 6, 7] (fun v ln at' wr => ∃ (k l : Nat) (acc rest : List TK) (o : Option Addr) (cap : Nat), v = .slice o acc.length cap ∧ ln = .int .i64 l ∧ at' = .int .i64 k ∧ k ≤ u.size ∧ l ≤ k + 1 ∧ acc.length ≤ 8191 ∧ Row w0 wr (.slice o acc.length cap) acc ∧ Hid (Lx u k l acc.length rest e p) ∧ Hid (acc ++ rest = ts)) (fun _ _ at' _ => u.size - (intOf at').toNat)
  case atStart => exact ⟨0, 1, [], ts, none, 0, rfl, rfl, rfl, by omega, by omega, by simp, Row.nil_ w0, HL, Lib.hid rfl⟩
  case round =>
    obtain ⟨k, l, acc, rest, o, cap, rfl, rfl, rfl, hk, hl, hacc, hrow, hlx, hts⟩ := hrel
    have HR := Lib.hid hrow
    have hlk : (l : Int) ≤ 65536 := by omega
    clear hrow
    by_cases hlt : k < u.size
    · have hki : (k : Int) < u.size := by omega
      cases hb : blankAt u k with
      | none =>
        have HB : Hid (blankV (blankAt u k) = .tuple #[.int .i64 0, .int .i64 0, .bool false]) := Lib.hid (by rw [hb]; rfl)
        obtain ⟨h1, rfl, hp⟩ := hlx.out.at_open hlt hb
        subst p
        clear hb h1 hlx hts HL
        go_wp2_with (go_at_call 26; refine (blank_as u k _ hs hlt _ HB).mono ?_; rintro e w' ⟨rfl, rfl⟩)
        go_ret3
        exact ToksP.bad (by omega) rfl HR.out.bel
      | some q =>
        obtain ⟨n, j⟩ := q
        have HB : Hid (blankV (blankAt u k) = .tuple #[.int .i64 n, .int .i64 j, .bool true]) := Lib.hid (by rw [hb]; rfl)
        have hle := blankAt_le u k n j hlt hb
        by_cases hn : n = 0
        · subst hn
          obtain rfl := blank_zero u k 0 j hb rfl
          obtain ⟨r, hr⟩ : ∃ r, tokAt u k = r := ⟨_, rfl⟩
          have HN : Hid (nextV (tokAt u k) k = .tuple #[.agg #[.int .i64 r.kind, .int .i64 (if r.er = 0 then k else 0 : Nat), .int .i64 0, .string r.text, .int .i64 r.num], .int .i64 r.size, .int .i64 r.er]) := Lib.hid (by
            rw [hr]; unfold nextV sixT Six
            split <;> rfl)
          have htl := tokAt_le u k hlt
          rw [hr] at htl
          by_cases her : r.er = 0
          · have htl2 := htl her
            rw [if_pos her, her] at HN
            by_cases hc : acc.length = 8191
            · obtain ⟨h1, rfl, hp⟩ := hlx.out.at_many hlt hb (by rw [hr]; exact her) hc
              subst p
              have hci : ((acc.length : Int) == 8191) = true := by rw [beq_iff_eq]; omega
              clear hb h1 hlx hts HL hr her htl hc
              go_wp2_with fail
              refine (blank_as u k _ hs hlt _ HB).mono ?_
              rintro e w' ⟨rfl, rfl⟩
              go_wp2_with (go_at_call 27; refine (next_as u k _ hs hlt _ HN).mono ?_; rintro e w1 ⟨rfl, hb⟩; have HB1 := Lib.hid hb; clear hb)
              go_ret3
              exact ToksP.bad (by omega) rfl (((HR.out.below HB1.out).alloc _).bel)
            · obtain ⟨rest', hrest, h1⟩ := hlx.out.at_tok hlt hb (by rw [hr]; exact her) hc
              rw [hr] at hrest h1
              have HLX := Lib.hid h1
              have HTS : Hid ((acc ++ [⟨r.kind, k, l, r.text, r.num⟩]) ++ rest' = ts) := Lib.hid (by rw [← hts.out, hrest]; simp)
              have hci : ((acc.length : Int) == 8191) = false := by rw [beq_eq_false_iff_ne]; omega
              have hcn : acc.length + 1 ≤ 8191 := by omega
              obtain ⟨hz1, hz2⟩ := htl2
              clear hb h1 hlx hts HL hr her htl hc hrest
              go_wp2_with fail
              refine (blank_as u k _ hs hlt _ HB).mono ?_
              rintro e w' ⟨rfl, rfl⟩
              go_wp2_with fail
              refine (next_as u k _ hs hlt _ HN).mono ?_
              rintro e w1 ⟨rfl, hb⟩
              have HR1 := Lib.hid (HR.out.below hb)
              clear hb HR
              go_wp2_with (at_builtin; refine wpList_append_own _ rfl _ _ 22 rfl w0.heap.size 25 i27 zeroTok 5 48 Try.underlying22 HI.out.1 HI.out.2.1 HI.out.2.2.1 HI.out.2.2.2 rfl (by decide) _ _ _ rfl ((HR1.out.alloc (.cells #[.int .i64 r.kind, .int .i64 k, .int .i64 l, .string r.text, .int .i64 r.num] 25)).alloc (.cells #[.int .i64 r.kind, .int .i64 k, .int .i64 l, .string r.text, .int .i64 r.num] 25)).own ⟨w1.heap.size + 1, 0, none⟩ 1 1 (tkCells ⟨r.kind, k, l, r.text, r.num⟩) rfl rfl ?c1 ?c2 ?c3 ?c4 ?c5 ?_)
              case c1 =>
                intro j u hu
                have := new_cells (w1.alloc (.cells #[.int .i64 r.kind, .int .i64 k, .int .i64 l, .string r.text, .int .i64 r.num] 25)) _ _ _ _ _ j u hu
                simpa using this
              case c2 => intro u hu; simp [tkCells] at hu; rcases hu with rfl | rfl | rfl | rfl | rfl <;> rfl
              case c3 => unfold maxLen; omega
              case c4 => omega
              case c5 => have := HR1.out.bel.size; simp; omega
              intro v2 w2 hown2 hgrow2 _
              have HR2 := Lib.hid (((HR1.out.alloc _).alloc _).push _ hgrow2 hown2)
              obtain ⟨o2, cap2, rfl⟩ : ∃ o cap, v2 = .slice o (acc.length + 1) cap := by
                rcases hown2.2 with ⟨h1, h2⟩ | ⟨g, cap, cur, h1, _⟩
                · omega
                · exact ⟨_, _, h1⟩
              clear hown2 hgrow2 HR1
              go_wp2
              go_roundw
              case rel => exact ⟨k + r.size, l, acc ++ [⟨r.kind, k, l, r.text, r.num⟩], rest', o2, cap2, by simp, rfl, by go_num, by omega, by omega, by simpa using hcn, by rw [List.length_append]; exact HR2.out, Lib.hid (by rw [List.length_append]; exact HLX.out), HTS⟩
              case measure => simp [intOf]; omega
          · obtain ⟨h1, h2, hp⟩ := hlx.out.at_wrong hlt hb (by rw [hr]; exact her)
            subst p
            rw [hr] at h2
            subst h2
            rw [if_neg her] at HN
            have he0 : ((r.er : Int) != 0) = true := by rw [bne_iff_ne]; omega
            clear hb h1 hlx hts HL hr htl
            go_wp2_with fail
            refine (blank_as u k _ hs hlt _ HB).mono ?_
            rintro e w' ⟨rfl, rfl⟩
            go_wp2_with (go_at_call 27; refine (next_as u k _ hs hlt _ HN).mono ?_; rintro e w1 ⟨rfl, hb⟩; have HB1 := Lib.hid hb; clear hb)
            go_ret3
            exact ToksP.bad her rfl (((HR.out.below HB1.out).alloc _).bel)
        · have HLX := Lib.hid (hlx.out.at_blank hlt hb (by omega))
          have hji : (j : Int) ≤ 1 := by
            have : j ≤ 1 := blank_one u k n j hb
            omega
          have hjn : j ≤ n := blank_lines u k n j hb (by omega)
          have hni : (0 : Int) < n := by omega
          clear hb hlx HL
          go_wp2_with (go_at_call 26; refine (blank_as u k _ hs hlt _ HB).mono ?_; rintro e w' ⟨rfl, rfl⟩)
          go_roundw
          case rel => exact ⟨k + n, l + j, acc, rest, o, cap, rfl, by go_num, by go_num, by omega, by omega, hacc, HR.out, HLX, hts⟩
          case measure => simp [intOf]; omega
    · have hki : ¬ (k : Int) < u.size := by omega
      obtain ⟨hrest, rfl, rfl⟩ := hlx.out.at_fin (by omega)
      have HTS : Hid (acc ++ [⟨0, k, l, ⟨#[]⟩, 0⟩] = ts) := Lib.hid (by rw [← hts.out, hrest])
      clear hrest hlx HL hts
      go_wp2_with (at_builtin; refine wpList_append_own _ rfl _ _ 22 rfl w0.heap.size 25 i27 zeroTok 5 48 Try.underlying22 HI.out.1 HI.out.2.1 HI.out.2.2.1 HI.out.2.2.2 rfl (by decide) _ _ _ rfl (HR.out.alloc (.cells #[.int .i64 0, .int .i64 k, .int .i64 l, .string ⟨#[]⟩, .int .i64 0] 25)).own ⟨wr.heap.size, 0, none⟩ 1 1 (tkCells ⟨0, k, l, ⟨#[]⟩, 0⟩) rfl rfl ?d1 ?d2 ?d3 ?d4 ?d5 ?_)
      case d1 => intro j u hu; first | exact new_cells wr _ _ _ _ _ j u hu | simpa [tkCells] using hu
      case d2 => intro u hu; simp [tkCells] at hu; rcases hu with rfl | rfl | rfl | rfl | rfl <;> rfl
      case d3 => unfold maxLen; omega
      case d4 => omega
      case d5 => have := HR.out.bel.size; simp; omega
      intro v2 w2 hown2 hgrow2 _
      have HR2 := Lib.hid ((HR.out.alloc _).push _ hgrow2 hown2)
      rw [HTS.out] at HR2
      clear hown2 hgrow2 HR
      go_wp2
      go_ret3
      exact ToksP.good rfl HR2.out
end Go.Proofs.Ytojneaffoekpnaa.lx
