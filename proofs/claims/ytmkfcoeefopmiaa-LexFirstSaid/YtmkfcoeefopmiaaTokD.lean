/- The contract of the program's Tokens. -/
import Derived.Test.YtmkfcoeefopmiaaTokA
namespace Go.Proofs.Ytmkfcoeefopmiaa
open Go.ChangeShapes Go.WideShapes Go.ChangeAt Go.RowKit

def tkF (u : ByteArray) (o : Option Addr) (n cap : Nat) (k l : Int) (X : Nat → Value) : Act := { tmps := #[.string u, undef, .slice none 0 0, .int .i64 0, .int .i64 0, .slice o n cap, .int .i64 k, .int .i64 l, X 8, X 9, X 10, X 11, X 12, X 13, X 14, X 15, X 16, X 17, X 18, X 19, X 20, X 21, X 22, X 23, X 24, X 25, X 26, X 27, X 28, X 29, X 30, X 31, X 32, X 33, X 34, X 35, X 36, X 37, X 38, X 39, X 40, X 41, X 42, X 43, X 44, X 45, X 46, X 47, X 48, X 49, X 50, X 51, X 52, X 53, X 54, X 55, X 56, X 57, X 58, X 59, X 60, X 61, X 62, X 63, X 64, X 65, X 66, X 67, X 68], defers := [] }
theorem tkF_of {u : ByteArray} {o : Option Addr} {n cap : Nat} {k l : Int} (t : Array Value) (h : t = (tkF u o n cap k l (fun i => t.getD i undef)).tmps) : ∃ X, ({ tmps := t, defers := [] } : Act) = tkF u o n cap k l X :=
  ⟨fun i => t.getD i undef, by rw [show tkF u o n cap k l (fun i => t.getD i undef) = { tmps := (tkF u o n cap k l (fun i => t.getD i undef)).tmps, defers := [] } from rfl, ← h]⟩
theorem Skip.lines {u : ByteArray} {k l k' l' : Nat} {b : Bool} (hs : Skip u k l k' l' b) : l' ≤ l + (k' - k) := by
  induction hs with
  | fin k l hk => omega
  | stop k l hk hb => omega
  | bad k l hk hb => omega
  | go k l n j k' l' b hk hb hn h ih =>
    have h1 := h.le.1
    have h2 : j ≤ 1 := by
      unfold blankAt at hb
      split at hb
      · cases hb; omega
      split at hb
      · cases hb; omega
      split at hb
      · cases hb; omega
      split at hb
      · cases hf : find2 42 47 (u.data.toList.drop (k + 2)) with
        | none => rw [hf] at hb; cases hb
        | some i => rw [hf] at hb; cases hb; omega
      split at hb
      · cases hb; omega
      · cases hb; omega
    omega

set_option maxRecDepth 1000000 in
set_option maxHeartbeats 4000000 in
theorem tokensD (u : ByteArray) (w0 : World) (hs : u.size ≤ 65535) (ts : List TK) (e p : Nat) (hL : Lx u 0 1 0 ts e p) (mm : Int) (hm0 : w0.cell? ⟨0, 0, none⟩ = some (.int .i64 mm)) :
    Calls Try.prog 5 #[.string u] w0 (ToksP w0 ts e p) := by
  have HL := Lib.hid hL
  have h00 : 0 < w0.heap.size := World.block_lt_of_cell? w0 _ hm0
  have HM := Lib.hid hm0
  clear hL hm0
  obtain ⟨i27, hi27, ha27, hb27, hc27⟩ := info_parts info27
  have HI := Lib.hid (And.intro hi27 (And.intro ha27 (And.intro hb27 hc27)))
  clear hi27 ha27 hb27 hc27
  have hsi : (u.size : Int) ≤ 65535 := by omega
  have h65 : decide (65535 < (u.size : Int)) = false := by simp; omega
  obtain ⟨M, hMM⟩ : ∃ M, u.size ≤ M := ⟨_, Nat.le_refl _⟩
  go_enter Try.func5, Try.ntmps5
  go_wp2
  refine wp_scope_both (M + 1) 0 (fun m a' wr => ∃ (k l : Nat) (acc rest : List TK) (o : Option Addr) (cap : Nat), m = u.size - k ∧ k ≤ u.size ∧ l ≤ k + 1 ∧ acc.length ≤ 8191 ∧ Row w0 wr (.slice o acc.length cap) acc ∧ Lx u k l acc.length rest e p ∧ acc ++ rest = ts ∧ ∃ (n : Nat) (kI lI : Int), n = acc.length ∧ kI = k ∧ lI = l ∧ ∃ X, a' = tkF u o n cap kI lI X) rfl ?_ ?_
  · go_wp2
    go_step3
    obtain ⟨k, l, acc, o, cap, rest, hk0, hl0, ho, hn0, hcap, hk, hl, hacc, HR, hlx, hts, hmk⟩ : ∃ (k l : Nat) (acc : List TK) (o : Option Addr) (cap : Nat) (rest : List TK), (0 : Int) = (k : Int) ∧ (1 : Int) = (l : Int) ∧ none = o ∧ 0 = acc.length ∧ 0 = cap ∧ k ≤ u.size ∧ l ≤ k + 1 ∧ acc.length ≤ 8191 ∧ Hid (Row w0 w0 (.slice o acc.length cap) acc) ∧ Hid (Lx u k l acc.length rest e p) ∧ Hid (acc ++ rest = ts) ∧ u.size - k ≤ M := ⟨0, 1, [], none, 0, ts, rfl, rfl, rfl, rfl, rfl, by omega, by omega, by simp, Lib.hid (Row.nil_ w0), HL, Lib.hid rfl, by omega⟩
    rw [show ({ tmps := #[.string u, undef, .slice none 0 0, .int .i64 0, .int .i64 0, .slice none 0 0, .int .i64 0, .int .i64 1, undef, undef, undef, undef, undef, .string u, .int .i64 (u.size : Int), .bool false, undef, undef, undef, undef, undef, undef, undef, undef, undef, undef, undef, undef, undef, undef, undef, undef, undef, undef, undef, undef, undef, undef, undef, undef, undef, undef, undef, undef, undef, undef, undef, undef, undef, undef, undef, undef, undef, undef, undef, undef, undef, undef, undef, undef, undef, undef, undef, undef, undef, undef, undef, undef, undef], defers := [] } : Act) = { tmps := #[.string u, undef, .slice none 0 0, .int .i64 0, .int .i64 0, .slice o acc.length cap, .int .i64 (k : Int), .int .i64 (l : Int), undef, undef, undef, undef, undef, .string u, .int .i64 (u.size : Int), .bool false, undef, undef, undef, undef, undef, undef, undef, undef, undef, undef, undef, undef, undef, undef, undef, undef, undef, undef, undef, undef, undef, undef, undef, undef, undef, undef, undef, undef, undef, undef, undef, undef, undef, undef, undef, undef, undef, undef, undef, undef, undef, undef, undef, undef, undef, undef, undef, undef, undef, undef, undef, undef, undef], defers := [] } from by rw [hk0, hl0, ho, ← hn0, ← hcap]]
    clear hk0 hl0 ho hn0 hcap HL hMM
    have hm : w0.cell? ⟨0, 0, none⟩ = some (.int .i64 mm) := by rw [HR.out.bel.cell (p := ⟨0, 0, none⟩) h00]; exact HM.out
    obtain ⟨kf, lf, bf, hsk⟩ := Skip.all u _ k 0 (Nat.le_refl _)
    have HSK := Lib.hid hsk
    have hkf := hsk.le.2 hk
    have hkf1 := hsk.le.1
    have hlf : lf ≤ kf - k := by have := hsk.lines; omega
    have hx := hlx.out.skip (by have := hsk.add l; rw [Nat.zero_add] at this; exact this)
    have hlk : (l : Int) ≤ 65536 := by omega
    have hlf2 : (lf : Int) ≤ 65536 := by omega
    have HMW := Lib.hid hm
    clear hm hsk
    cases bf with
    | false =>
      simp only [Bool.false_eq_true, if_false] at hx
      obtain ⟨hx1, hx2, hx3⟩ := hx
      obtain ⟨h1, rfl, hp⟩ := hx3.at_open hx1 hx2
      subst p
      clear h1 hx1 hx2 hx3 hlx hts
      go_wp2_with (go_at_call 8; refine (skip_any u k kf lf false _ hs hk HSK mm HMW.out).mono ?_; rintro e w' ⟨rfl, rfl⟩)
      simp only [Exit.jump]
      go_ret3
      exact ToksP.bad (by omega) rfl HR.out.bel
    | true =>
      simp only [if_true] at hx
      obtain ⟨hx3, hx2⟩ := hx
      by_cases hlt : kf < u.size
      · have hb := hx2 hlt
        have hki : (kf : Int) < u.size := by omega
        have hkn : ((kf : Int) == (u.size : Int)) = false := by rw [beq_eq_false_iff_ne]; omega
        obtain ⟨r, hr⟩ : ∃ r, tokAt u kf = r := ⟨_, rfl⟩
        have hrd := read_any (u.extract kf u.size) w0 (by rw [ext_size]; omega) (by rw [ext_size]; omega) mm HMW.out
        unfold ReadC sixT Six at hrd
        rw [show tokR (u.extract kf u.size) = r from hr] at hrd
        have htl := tokAt_le u kf hlt
        rw [hr] at htl
        by_cases her : r.er = 0
        · have htl2 := htl her
          rw [her] at hrd
          have HRD := Lib.hid hrd
          clear hrd
          by_cases hc : acc.length = 8191
          · obtain ⟨h1, rfl, hp⟩ := hx3.at_many hlt hb (by rw [hr]; exact her) hc
            subst p
            have hci : ((acc.length : Int) == 8191) = true := by rw [beq_iff_eq]; omega
            clear hb h1 hx2 hx3 hlx hts hr her htl hc htl2
            go_wp2_with fail
            refine (skip_any u k kf lf true _ hs hk HSK mm HMW.out).mono ?_
            rintro e w0 ⟨rfl, rfl⟩
            go_wp2_with (go_at_call 9; refine HRD.out.mono ?_; rintro e w1 ⟨rfl, hb⟩; have HB1 := Lib.hid hb; clear hb)
            simp only [Exit.jump]
            go_ret3
            exact ToksP.bad (by omega) rfl (((HR.out.below HB1.out).alloc _).bel)
          · obtain ⟨rest', hrest, h1⟩ := hx3.at_tok hlt hb (by rw [hr]; exact her) hc
            rw [hr] at hrest h1
            have HLX := Lib.hid h1
            have HTS : Hid ((acc ++ [⟨r.kind, kf, l + lf, r.text, r.num⟩]) ++ rest' = ts) := Lib.hid (by rw [← hts.out, hrest, Nat.add_comm lf l]; simp)
            have hci : ((acc.length : Int) == 8191) = false := by rw [beq_eq_false_iff_ne]; omega
            have hcn : acc.length + 1 ≤ 8191 := by omega
            obtain ⟨hz1, hz2⟩ := htl2
            clear hb h1 hx2 hx3 hlx hts hr her htl hc hrest
            go_wp2_with fail
            refine (skip_any u k kf lf true _ hs hk HSK mm HMW.out).mono ?_
            rintro e w0 ⟨rfl, rfl⟩
            go_wp2_with fail
            refine HRD.out.mono ?_
            rintro e w1 ⟨rfl, hb⟩
            have HR1 := Lib.hid (HR.out.below hb)
            clear hb HR
            go_wp2_with (at_builtin; refine wpList_append_own _ rfl _ _ 22 rfl w0.heap.size 27 i27 zeroTok 5 48 Try.underlying22 HI.out.1 HI.out.2.1 HI.out.2.2.1 HI.out.2.2.2 rfl (by decide) _ _ _ rfl ((HR1.out.alloc (.cells #[.int .i64 r.kind, .int .i64 kf, .int .i64 (l + lf : Nat), .string r.text, .int .i64 r.num] 27)).alloc (.cells #[.int .i64 r.kind, .int .i64 kf, .int .i64 (l + lf : Nat), .string r.text, .int .i64 r.num] 27)).own ⟨w1.heap.size + 1, 0, none⟩ 1 1 (tkCells ⟨r.kind, kf, l + lf, r.text, r.num⟩) rfl rfl ?cb1 ?cb2 ?cb3 ?cb4 ?cb5 ?_)
            case cb1 =>
              intro j u hu
              have := new_cells (w1.alloc (.cells #[.int .i64 r.kind, .int .i64 kf, .int .i64 (l + lf : Nat), .string r.text, .int .i64 r.num] 27)) _ _ _ _ _ j u hu
              simpa using this
            case cb2 => intro u hu; simp [tkCells] at hu; rcases hu with rfl | rfl | rfl | rfl | rfl <;> rfl
            case cb3 => unfold maxLen; omega
            case cb4 => omega
            case cb5 => have := HR1.out.bel.size; simp; omega
            intro v2 w2 hown2 hgrow2 _
            have HR2 := Lib.hid (((HR1.out.alloc _).alloc _).push _ hgrow2 hown2)
            obtain ⟨o2, cap2, rfl⟩ : ∃ o cap, v2 = .slice o (acc.length + 1) cap := by
              rcases hown2.2 with ⟨h1, h2⟩ | ⟨g, cap, cur, h1, _⟩
              · omega
              · exact ⟨_, _, h1⟩
            clear hown2 hgrow2 HR1
            go_wp2
            go_step3
            exact ⟨rfl, u.size - (kf + r.size), by omega, kf + r.size, l + lf, acc ++ [⟨r.kind, kf, l + lf, r.text, r.num⟩], rest', o2, cap2, rfl, by omega, by omega, by simpa using hcn, by rw [List.length_append]; exact HR2.out, by rw [List.length_append, Nat.add_comm l lf]; exact HLX.out, HTS.out, acc.length + 1, (kf : Int) + (r.size : Int), (l : Int) + (lf : Int), by simp, by omega, by omega, tkF_of _ rfl⟩
        · obtain ⟨h1, h2, hp⟩ := hx3.at_wrong hlt hb (by rw [hr]; exact her)
          rw [hr] at h2
          subst p
          subst h2
          have HRD := Lib.hid hrd
          have he0 : ((r.er : Int) == 0) = false := by rw [beq_eq_false_iff_ne]; omega
          have he1 : ((r.er : Int) != 0) = true := by rw [bne_iff_ne]; omega
          clear hb h1 hx2 hx3 hlx hts hr htl hrd
          go_wp2_with fail
          refine (skip_any u k kf lf true _ hs hk HSK mm HMW.out).mono ?_
          rintro e w0 ⟨rfl, rfl⟩
          go_wp2_with (go_at_call 9; refine HRD.out.mono ?_; rintro e w1 ⟨rfl, hb⟩; have HB1 := Lib.hid hb; clear hb)
          simp only [Exit.jump]
          go_ret3
          exact ToksP.bad her rfl (((HR.out.below HB1.out).alloc _).bel)
      · obtain ⟨hrest, rfl, rfl⟩ := hx3.at_fin (by omega)
        have hke : kf = u.size := by omega
        have hkn : ((kf : Int) == (u.size : Int)) = true := by rw [beq_iff_eq]; omega
        have HTS : Hid (acc ++ [⟨0, kf, l + lf, ⟨#[]⟩, 0⟩] = ts) := Lib.hid (by rw [← hts.out, hrest, Nat.add_comm lf l])
        clear hrest hx2 hx3 hlx hts hke
        go_wp2_with fail
        refine (skip_any u k kf lf true _ hs hk HSK mm HMW.out).mono ?_
        rintro e w0 ⟨rfl, rfl⟩
        go_wp2_with (at_builtin; refine wpList_append_own _ rfl _ _ 22 rfl w0.heap.size 27 i27 zeroTok 5 48 Try.underlying22 HI.out.1 HI.out.2.1 HI.out.2.2.1 HI.out.2.2.2 rfl (by decide) _ _ _ rfl (HR.out.alloc (.cells #[.int .i64 0, .int .i64 kf, .int .i64 (l + lf : Nat), .string ⟨#[]⟩, .int .i64 0] 27)).own ⟨w0.heap.size, 0, none⟩ 1 1 (tkCells ⟨0, kf, l + lf, ⟨#[]⟩, 0⟩) rfl rfl ?db1 ?db2 ?db3 ?db4 ?db5 ?_)
        case db1 => intro j u hu; first | exact new_cells w0 _ _ _ _ _ j u hu | simpa [tkCells] using hu
        case db2 => intro u hu; simp [tkCells] at hu; rcases hu with rfl | rfl | rfl | rfl | rfl <;> rfl
        case db3 => unfold maxLen; omega
        case db4 => omega
        case db5 => have := HR.out.bel.size; simp <;> omega
        intro v2 w2 hown2 hgrow2 _
        have HR2 := Lib.hid ((HR.out.alloc _).push _ hgrow2 hown2)
        rw [HTS.out] at HR2
        clear hown2 hgrow2 HR
        go_wp2
        simp only [Exit.jump]
        go_ret3
        exact ToksP.good rfl HR2.out
    
  · rintro m a' wr ⟨k, l, acc, rest, o, cap, rfl, hk, hl, hacc, hrow, hlx0, hts0, n', kI, lI, rfl, rfl, rfl, X, rfl⟩
    unfold tkF
    have HR := Lib.hid hrow
    have hlx := Lib.hid hlx0
    have hts := Lib.hid hts0
    clear hrow hlx0 hts0 HL hMM
    have hm : wr.cell? ⟨0, 0, none⟩ = some (.int .i64 mm) := by rw [HR.out.bel.cell (p := ⟨0, 0, none⟩) h00]; exact HM.out
    obtain ⟨kf, lf, bf, hsk⟩ := Skip.all u _ k 0 (Nat.le_refl _)
    have HSK := Lib.hid hsk
    have hkf := hsk.le.2 hk
    have hkf1 := hsk.le.1
    have hlf : lf ≤ kf - k := by have := hsk.lines; omega
    have hx := hlx.out.skip (by have := hsk.add l; rw [Nat.zero_add] at this; exact this)
    have hlk : (l : Int) ≤ 65536 := by omega
    have hlf2 : (lf : Int) ≤ 65536 := by omega
    have HMW := Lib.hid hm
    clear hm hsk
    cases bf with
    | false =>
      simp only [Bool.false_eq_true, if_false] at hx
      obtain ⟨hx1, hx2, hx3⟩ := hx
      obtain ⟨h1, rfl, hp⟩ := hx3.at_open hx1 hx2
      subst p
      clear h1 hx1 hx2 hx3 hlx hts
      go_wp2_with (go_at_call 8; refine (skip_any u k kf lf false _ hs hk HSK mm HMW.out).mono ?_; rintro e w' ⟨rfl, rfl⟩)
      simp only [Exit.jump]
      go_ret3
      exact ToksP.bad (by omega) rfl HR.out.bel
    | true =>
      simp only [if_true] at hx
      obtain ⟨hx3, hx2⟩ := hx
      by_cases hlt : kf < u.size
      · have hb := hx2 hlt
        have hki : (kf : Int) < u.size := by omega
        have hkn : ((kf : Int) == (u.size : Int)) = false := by rw [beq_eq_false_iff_ne]; omega
        obtain ⟨r, hr⟩ : ∃ r, tokAt u kf = r := ⟨_, rfl⟩
        have hrd := read_any (u.extract kf u.size) wr (by rw [ext_size]; omega) (by rw [ext_size]; omega) mm HMW.out
        unfold ReadC sixT Six at hrd
        rw [show tokR (u.extract kf u.size) = r from hr] at hrd
        have htl := tokAt_le u kf hlt
        rw [hr] at htl
        by_cases her : r.er = 0
        · have htl2 := htl her
          rw [her] at hrd
          have HRD := Lib.hid hrd
          clear hrd
          by_cases hc : acc.length = 8191
          · obtain ⟨h1, rfl, hp⟩ := hx3.at_many hlt hb (by rw [hr]; exact her) hc
            subst p
            have hci : ((acc.length : Int) == 8191) = true := by rw [beq_iff_eq]; omega
            clear hb h1 hx2 hx3 hlx hts hr her htl hc htl2
            go_wp2_with fail
            refine (skip_any u k kf lf true _ hs hk HSK mm HMW.out).mono ?_
            rintro e wr ⟨rfl, rfl⟩
            go_wp2_with (go_at_call 9; refine HRD.out.mono ?_; rintro e w1 ⟨rfl, hb⟩; have HB1 := Lib.hid hb; clear hb)
            simp only [Exit.jump]
            go_ret3
            exact ToksP.bad (by omega) rfl (((HR.out.below HB1.out).alloc _).bel)
          · obtain ⟨rest', hrest, h1⟩ := hx3.at_tok hlt hb (by rw [hr]; exact her) hc
            rw [hr] at hrest h1
            have HLX := Lib.hid h1
            have HTS : Hid ((acc ++ [⟨r.kind, kf, l + lf, r.text, r.num⟩]) ++ rest' = ts) := Lib.hid (by rw [← hts.out, hrest, Nat.add_comm lf l]; simp)
            have hci : ((acc.length : Int) == 8191) = false := by rw [beq_eq_false_iff_ne]; omega
            have hcn : acc.length + 1 ≤ 8191 := by omega
            obtain ⟨hz1, hz2⟩ := htl2
            clear hb h1 hx2 hx3 hlx hts hr her htl hc hrest
            go_wp2_with fail
            refine (skip_any u k kf lf true _ hs hk HSK mm HMW.out).mono ?_
            rintro e wr ⟨rfl, rfl⟩
            go_wp2_with fail
            refine HRD.out.mono ?_
            rintro e w1 ⟨rfl, hb⟩
            have HR1 := Lib.hid (HR.out.below hb)
            clear hb HR
            go_wp2_with (at_builtin; refine wpList_append_own _ rfl _ _ 22 rfl w0.heap.size 27 i27 zeroTok 5 48 Try.underlying22 HI.out.1 HI.out.2.1 HI.out.2.2.1 HI.out.2.2.2 rfl (by decide) _ _ _ rfl ((HR1.out.alloc (.cells #[.int .i64 r.kind, .int .i64 kf, .int .i64 (l + lf : Nat), .string r.text, .int .i64 r.num] 27)).alloc (.cells #[.int .i64 r.kind, .int .i64 kf, .int .i64 (l + lf : Nat), .string r.text, .int .i64 r.num] 27)).own ⟨w1.heap.size + 1, 0, none⟩ 1 1 (tkCells ⟨r.kind, kf, l + lf, r.text, r.num⟩) rfl rfl ?ca1 ?ca2 ?ca3 ?ca4 ?ca5 ?_)
            case ca1 =>
              intro j u hu
              have := new_cells (w1.alloc (.cells #[.int .i64 r.kind, .int .i64 kf, .int .i64 (l + lf : Nat), .string r.text, .int .i64 r.num] 27)) _ _ _ _ _ j u hu
              simpa using this
            case ca2 => intro u hu; simp [tkCells] at hu; rcases hu with rfl | rfl | rfl | rfl | rfl <;> rfl
            case ca3 => unfold maxLen; omega
            case ca4 => omega
            case ca5 => have := HR1.out.bel.size; simp; omega
            intro v2 w2 hown2 hgrow2 _
            have HR2 := Lib.hid (((HR1.out.alloc _).alloc _).push _ hgrow2 hown2)
            obtain ⟨o2, cap2, rfl⟩ : ∃ o cap, v2 = .slice o (acc.length + 1) cap := by
              rcases hown2.2 with ⟨h1, h2⟩ | ⟨g, cap, cur, h1, _⟩
              · omega
              · exact ⟨_, _, h1⟩
            clear hown2 hgrow2 HR1
            go_wp2
            go_step3
            exact ⟨rfl, u.size - (kf + r.size), by omega, kf + r.size, l + lf, acc ++ [⟨r.kind, kf, l + lf, r.text, r.num⟩], rest', o2, cap2, rfl, by omega, by omega, by simpa using hcn, by rw [List.length_append]; exact HR2.out, by rw [List.length_append, Nat.add_comm l lf]; exact HLX.out, HTS.out, acc.length + 1, (kf : Int) + (r.size : Int), (l : Int) + (lf : Int), by simp, by omega, by omega, tkF_of _ rfl⟩
        · obtain ⟨h1, h2, hp⟩ := hx3.at_wrong hlt hb (by rw [hr]; exact her)
          rw [hr] at h2
          subst p
          subst h2
          have HRD := Lib.hid hrd
          have he0 : ((r.er : Int) == 0) = false := by rw [beq_eq_false_iff_ne]; omega
          have he1 : ((r.er : Int) != 0) = true := by rw [bne_iff_ne]; omega
          clear hb h1 hx2 hx3 hlx hts hr htl hrd
          go_wp2_with fail
          refine (skip_any u k kf lf true _ hs hk HSK mm HMW.out).mono ?_
          rintro e wr ⟨rfl, rfl⟩
          go_wp2_with (go_at_call 9; refine HRD.out.mono ?_; rintro e w1 ⟨rfl, hb⟩; have HB1 := Lib.hid hb; clear hb)
          simp only [Exit.jump]
          go_ret3
          exact ToksP.bad her rfl (((HR.out.below HB1.out).alloc _).bel)
      · obtain ⟨hrest, rfl, rfl⟩ := hx3.at_fin (by omega)
        have hke : kf = u.size := by omega
        have hkn : ((kf : Int) == (u.size : Int)) = true := by rw [beq_iff_eq]; omega
        have HTS : Hid (acc ++ [⟨0, kf, l + lf, ⟨#[]⟩, 0⟩] = ts) := Lib.hid (by rw [← hts.out, hrest, Nat.add_comm lf l])
        clear hrest hx2 hx3 hlx hts hke
        go_wp2_with fail
        refine (skip_any u k kf lf true _ hs hk HSK mm HMW.out).mono ?_
        rintro e wr ⟨rfl, rfl⟩
        go_wp2_with (at_builtin; refine wpList_append_own _ rfl _ _ 22 rfl w0.heap.size 27 i27 zeroTok 5 48 Try.underlying22 HI.out.1 HI.out.2.1 HI.out.2.2.1 HI.out.2.2.2 rfl (by decide) _ _ _ rfl (HR.out.alloc (.cells #[.int .i64 0, .int .i64 kf, .int .i64 (l + lf : Nat), .string ⟨#[]⟩, .int .i64 0] 27)).own ⟨wr.heap.size, 0, none⟩ 1 1 (tkCells ⟨0, kf, l + lf, ⟨#[]⟩, 0⟩) rfl rfl ?da1 ?da2 ?da3 ?da4 ?da5 ?_)
        case da1 => intro j u hu; first | exact new_cells wr _ _ _ _ _ j u hu | simpa [tkCells] using hu
        case da2 => intro u hu; simp [tkCells] at hu; rcases hu with rfl | rfl | rfl | rfl | rfl <;> rfl
        case da3 => unfold maxLen; omega
        case da4 => omega
        case da5 => have := HR.out.bel.size; simp <;> omega
        intro v2 w2 hown2 hgrow2 _
        have HR2 := Lib.hid ((HR.out.alloc _).push _ hgrow2 hown2)
        rw [HTS.out] at HR2
        clear hown2 hgrow2 HR
        go_wp2
        simp only [Exit.jump]
        go_ret3
        exact ToksP.good rfl HR2.out
    
end Go.Proofs.Ytmkfcoeefopmiaa
