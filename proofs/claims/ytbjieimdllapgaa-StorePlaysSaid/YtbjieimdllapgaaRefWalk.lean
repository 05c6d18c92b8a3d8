/- Contracts of the document's store. -/
import Derived.Test.YtbjieimdllapgaaRefSto
namespace Go.Proofs.Ytbjieimdllapgaa
open Go.ChangeShapes Go.WideShapes Go.ChangeAt Go.RowKit

section
variable {w : World} {B r : Nat} {most : Int} {rows : List (ByteArray × Int)} {lv : Value}

/-- The text of a row. -/
def rkey (rows : List (ByteArray × Int)) (i : Nat) : ByteArray := (rows.map Prod.fst).getD i ByteArray.empty
def rbits (rows : List (ByteArray × Int)) (i : Nat) : Int := (rows.map Prod.snd).getD i 0
theorem rkey_of (rows : List (ByteArray × Int)) (i : Nat) (h : i < rows.length) : rows[i].1 = rkey rows i := by
  unfold rkey; simp [List.getD_eq_getElem?_getD, h]
theorem rbits_of (rows : List (ByteArray × Int)) (i : Nat) (h : i < rows.length) : rows[i].2 = rbits rows i := by
  unfold rbits; simp [List.getD_eq_getElem?_getD, h]

theorem Rto.cell (h : Rto w B r most rows lv) (hne : 0 < rows.length) : ∃ g cap, lv = .slice (some ⟨g, 0, none⟩) rows.length cap ∧
    (∀ i, i < rows.length → w.cell? ⟨g, i * 2, none⟩ = some (.string (rkey rows i)) ∧ w.cell? ⟨g, i * 2 + 1, none⟩ = some (.int .u64 (rbits rows i))) ∧ (∀ i, w.frozen? ⟨g, i, none⟩ = false) := by
  obtain ⟨g, cap, hv, _, _, hc, hf⟩ := h.cells hne
  exact ⟨g, cap, hv, fun i hi => by rw [← rkey_of rows i hi, ← rbits_of rows i hi]; exact hc i hi, hf⟩

theorem Rto.rkey_yes (h : Rto w B r most rows lv) (i : Nat) (hi : i < rows.length) (hm : rows.length ≤ 65536) :
    Calls Try.prog 45 #[.pointer (some ⟨r, 0, none⟩), .int .i64 i] w fun e w' => e = .returned (.tuple #[.string (rkey rows i), .int .i64 0]) ∧ w' = w := by
  obtain ⟨g, cap, hv, hc, _⟩ := h.cell (by omega)
  have f1 := h.f.2.1
  rw [hv] at f1
  have hk := (hc i hi).1
  generalize rkey rows i = K at *
  have hi0 : ¬ (i : Int) < 0 := by omega
  have hi1 : (i : Int) < rows.length := by omega
  clear h hc hv
  go_enter Try.func45, Try.ntmps45
  go_wp2
  go_ret2
  exact ⟨rfl, rfl⟩

theorem Rto.rkey_no (h : Rto w B r most rows lv) (i : Int) (h0 : i < 0 ∨ rows.length ≤ i) :
    Calls Try.prog 45 #[.pointer (some ⟨r, 0, none⟩), .int .i64 i] w fun e w' => e = .returned (.tuple #[.string ByteArray.empty, .int .i64 46]) ∧ w' = w := by
  have f1 := h.f.2.1
  obtain ⟨o, cap, hv⟩ := h.form
  rw [hv] at f1
  clear h hv
  by_cases hn : i < 0
  · clear h0
    go_enter Try.func45, Try.ntmps45
    go_wp2
    go_ret2
    exact ⟨rfl, rfl⟩
  · have h1 : (rows.length : Int) ≤ i := by omega
    have hd : decide ((rows.length : Int) ≤ i) = true := by simp; omega
    clear h0
    go_enter Try.func45, Try.ntmps45
    go_wp2
    go_ret2
    exact ⟨rfl, rfl⟩

theorem Rto.rbits_yes (h : Rto w B r most rows lv) (i : Nat) (hi : i < rows.length) (hm : rows.length ≤ 65536) :
    Calls Try.prog 46 #[.pointer (some ⟨r, 0, none⟩), .int .i64 i] w fun e w' => e = .returned (.int .u64 (rbits rows i)) ∧ w' = w := by
  obtain ⟨g, cap, hv, hc, _⟩ := h.cell (by omega)
  have f1 := h.f.2.1
  rw [hv] at f1
  have hk := (hc i hi).2
  generalize rbits rows i = K at *
  have hi0 : ¬ (i : Int) < 0 := by omega
  have hi1 : (i : Int) < rows.length := by omega
  clear h hc hv
  go_enter Try.func46, Try.ntmps46
  go_wp2
  go_ret
  exact ⟨rfl, rfl⟩

theorem Rto.rbits_no (h : Rto w B r most rows lv) (i : Int) (h0 : i < 0 ∨ rows.length ≤ i) :
    Calls Try.prog 46 #[.pointer (some ⟨r, 0, none⟩), .int .i64 i] w fun e w' => e = .returned (.int .u64 0) ∧ w' = w := by
  have f1 := h.f.2.1
  obtain ⟨o, cap, hv⟩ := h.form
  rw [hv] at f1
  clear h hv
  by_cases hn : i < 0
  · clear h0
    go_enter Try.func46, Try.ntmps46
    go_wp2
    go_ret
    exact ⟨rfl, rfl⟩
  · have h1 : (rows.length : Int) ≤ i := by omega
    have hd : decide ((rows.length : Int) ≤ i) = true := by simp; omega
    clear h0
    go_enter Try.func46, Try.ntmps46
    go_wp2
    go_ret
    exact ⟨rfl, rfl⟩

set_option maxRecDepth 100000 in
theorem Rto.rmark_yes (h : Rto w B r most rows lv) (i : Nat) (hi : i < rows.length) (hm : rows.length ≤ 65536) (x : Int) :
    Calls Try.prog 43 #[.pointer (some ⟨r, 0, none⟩), .int .i64 i, .int .u64 x] w fun e w' => e = .returned (.int .i64 0) ∧ OffR B w w' ∧ Rto w' B r most (rows.set i (rows[i].1, bits .or .u64 (rbits rows i) x)) lv := by
  obtain ⟨g, cap, hv, hc, hf⟩ := h.cell (by omega)
  have f1 := h.f.2.1
  rw [hv] at f1
  have hk := (hc i hi).2
  have hff := hf (i * 2 + 1)
  have hT := Lib.hid (h.turned g cap hv i hi (bits .or .u64 (rbits rows i) x))
  generalize rbits rows i = K at *
  have hi0 : ¬ (i : Int) < 0 := by omega
  have hi1 : (i : Int) < rows.length := by omega
  clear h hc hv hf
  go_enter Try.func43, Try.ntmps43
  go_wp2
  refine wp_region_still_tail 17 (by kernel_rfl) (by kernel_rfl) ?_
  simp only [List.take_succ_cons, List.take_zero, List.drop_succ_cons, List.drop_zero]
  repeat still_step
  refine wpStill_nil ?_
  change wpList _ _ _ _ _ w.drew
  go_wp2
  go_ret
  exact ⟨rfl, hT.out.2.drew, hT.out.1.of_heap rfl⟩

theorem Rto.rmark_no (h : Rto w B r most rows lv) (i x : Int) (h0 : i < 0 ∨ rows.length ≤ i) :
    Calls Try.prog 43 #[.pointer (some ⟨r, 0, none⟩), .int .i64 i, .int .u64 x] w fun e w' => e = .returned (.int .i64 46) ∧ w' = w := by
  have f1 := h.f.2.1
  obtain ⟨o, cap, hv⟩ := h.form
  rw [hv] at f1
  clear h hv
  by_cases hn : i < 0
  · clear h0
    go_enter Try.func43, Try.ntmps43
    go_wp2
    go_ret
    exact ⟨rfl, rfl⟩
  · have h1 : (rows.length : Int) ≤ i := by omega
    have hd : decide ((rows.length : Int) ≤ i) = true := by simp; omega
    clear h0
    go_enter Try.func43, Try.ntmps43
    go_wp2
    go_ret
    exact ⟨rfl, rfl⟩

set_option maxRecDepth 100000 in
theorem Rto.rclear_yes (h : Rto w B r most rows lv) (i : Nat) (hi : i < rows.length) (hm : rows.length ≤ 65536) (x : Int) :
    Calls Try.prog 44 #[.pointer (some ⟨r, 0, none⟩), .int .i64 i, .int .u64 x] w fun e w' => e = .returned (.int .i64 0) ∧ OffR B w w' ∧ Rto w' B r most (rows.set i (rows[i].1, bits .andNot .u64 (rbits rows i) x)) lv := by
  obtain ⟨g, cap, hv, hc, hf⟩ := h.cell (by omega)
  have f1 := h.f.2.1
  rw [hv] at f1
  have hk := (hc i hi).2
  have hff := hf (i * 2 + 1)
  have hT := Lib.hid (h.turned g cap hv i hi (bits .andNot .u64 (rbits rows i) x))
  generalize rbits rows i = K at *
  have hi0 : ¬ (i : Int) < 0 := by omega
  have hi1 : (i : Int) < rows.length := by omega
  clear h hc hv hf
  go_enter Try.func44, Try.ntmps44
  go_wp2
  refine wp_region_still_tail 17 (by kernel_rfl) (by kernel_rfl) ?_
  simp only [List.take_succ_cons, List.take_zero, List.drop_succ_cons, List.drop_zero]
  repeat still_step
  refine wpStill_nil ?_
  change wpList _ _ _ _ _ w.drew
  go_wp2
  go_ret
  exact ⟨rfl, hT.out.2.drew, hT.out.1.of_heap rfl⟩

theorem Rto.rclear_no (h : Rto w B r most rows lv) (i x : Int) (h0 : i < 0 ∨ rows.length ≤ i) :
    Calls Try.prog 44 #[.pointer (some ⟨r, 0, none⟩), .int .i64 i, .int .u64 x] w fun e w' => e = .returned (.int .i64 46) ∧ w' = w := by
  have f1 := h.f.2.1
  obtain ⟨o, cap, hv⟩ := h.form
  rw [hv] at f1
  clear h hv
  by_cases hn : i < 0
  · clear h0
    go_enter Try.func44, Try.ntmps44
    go_wp2
    go_ret
    exact ⟨rfl, rfl⟩
  · have h1 : (rows.length : Int) ≤ i := by omega
    have hd : decide ((rows.length : Int) ≤ i) = true := by simp; omega
    clear h0
    go_enter Try.func44, Try.ntmps44
    go_wp2
    go_ret
    exact ⟨rfl, rfl⟩

theorem Rto.rfind_yes (h : Rto w B r most rows lv) (key : ByteArray) (hm : rows.length ≤ 65536) (i : Nat) (hi : i < rows.length) (hk : rkey rows i = key) (hmin : ∀ j, j < i → rkey rows j ≠ key) :
    Calls Try.prog 42 #[.pointer (some ⟨r, 0, none⟩), .string key] w fun e w' => e = .returned (.tuple #[.int .i64 i, .bool true]) ∧ w' = w := by
  obtain ⟨g, cap, hv, hc, _⟩ := h.cell (by omega)
  have f1 := h.f.2.1
  rw [hv] at f1
  have HC := Lib.hid hc
  have HK := Lib.hid hk
  have HM := Lib.hid hmin
  clear h hc hv hk hmin
  go_enter Try.func42, Try.ntmps42
  go_wp2
  go_loop [6] (fun x => ∃ k : Nat, k ≤ i ∧ x = .int .i64 k) (fun x => rows.length - (intOf x).toNat)
  case atStart => exact ⟨0, Nat.zero_le _, rfl⟩
  case round =>
    obtain ⟨k, hk, rfl⟩ := hrel
    have hkl : k < rows.length := by omega
    have hcell := (HC.out k hkl).1
    by_cases he : k = i
    · subst he
      rw [HK.out] at hcell
      go_wp2
      go_ret2
      exact ⟨rfl, rfl⟩
    · have hne := HM.out k (by omega)
      obtain ⟨K, hK⟩ : ∃ K, rkey rows k = K := ⟨_, rfl⟩
      rw [hK] at hcell hne
      have hq : (K.toList == key.toList) = false := by
        rw [beq_eq_false_iff_ne]; exact fun he => hne (bytes_eq he)
      clear hne hK
      go_wp2
      go_round
      case rel => exact ⟨k + 1, by omega, by go_num⟩
      case measure => simp [intOf]; omega

theorem Rto.rfind_no (h : Rto w B r most rows lv) (key : ByteArray) (hm : rows.length ≤ 65536) (hno : ∀ j, j < rows.length → rkey rows j ≠ key) :
    Calls Try.prog 42 #[.pointer (some ⟨r, 0, none⟩), .string key] w fun e w' => e = .returned (.tuple #[.int .i64 0, .bool false]) ∧ w' = w := by
  have f1 := h.f.2.1
  obtain ⟨o, cap, hv⟩ := h.form
  rw [hv] at f1
  have HC : Hid (∀ k, k < rows.length → ∃ g, o = some ⟨g, 0, none⟩ ∧ w.cell? ⟨g, k * 2, none⟩ = some (.string (rkey rows k))) := Lib.hid fun k hk => by
    obtain ⟨g, cap', hv', hc, _⟩ := h.cell (by omega)
    rw [hv] at hv'
    simp only [Value.slice.injEq] at hv'
    exact ⟨g, hv'.1, (hc k hk).1⟩
  have HM := Lib.hid hno
  clear h hv hno
  go_enter Try.func42, Try.ntmps42
  go_wp2
  go_loop [6] (fun x => ∃ k : Nat, k ≤ rows.length ∧ x = .int .i64 k) (fun x => rows.length - (intOf x).toNat)
  case atStart => exact ⟨0, Nat.zero_le _, rfl⟩
  case round =>
    obtain ⟨k, hk, rfl⟩ := hrel
    by_cases hkl : k < rows.length
    · obtain ⟨g, rfl, hcell⟩ := HC.out k hkl
      have hne := HM.out k hkl
      obtain ⟨K, hK⟩ : ∃ K, rkey rows k = K := ⟨_, rfl⟩
      rw [hK] at hcell hne
      have hq : (K.toList == key.toList) = false := by
        rw [beq_eq_false_iff_ne]; exact fun he => hne (bytes_eq he)
      clear hne hK
      go_wp2
      go_round
      case rel => exact ⟨k + 1, by omega, by go_num⟩
      case measure => simp [intOf]; omega
    · go_wp2
      go_ret2
      exact ⟨rfl, rfl⟩

theorem Rto.rput_yes (h : Rto w B r most rows lv) (key : ByteArray) (hm : rows.length ≤ 65536) (i : Nat) (hi : i < rows.length) (hk : rkey rows i = key) (hmin : ∀ j, j < i → rkey rows j ≠ key) :
    Calls Try.prog 41 #[.pointer (some ⟨r, 0, none⟩), .string key] w fun e w' => e = .returned (.tuple #[.int .i64 i, .bool false, .int .i64 0]) ∧ w' = w := by
  have hf := Lib.hid (h.rfind_yes key hm i hi hk hmin)
  clear h hk hmin
  go_enter Try.func41, Try.ntmps41
  go_wp2_with (go_at_call 42; refine hf.out.mono ?_; rintro e w' ⟨rfl, rfl⟩)
  go_ret3
  exact ⟨rfl, rfl⟩

theorem Rto.rput_full (h : Rto w B r most rows lv) (key : ByteArray) (hm : rows.length ≤ 65536) (hno : ∀ j, j < rows.length → rkey rows j ≠ key) (hfull : most ≤ rows.length) :
    Calls Try.prog 41 #[.pointer (some ⟨r, 0, none⟩), .string key] w fun e w' => e = .returned (.tuple #[.int .i64 0, .bool false, .int .i64 45]) ∧ ∃ k, w' = w.drewN k := by
  have hf := Lib.hid (h.rfind_no key hm hno)
  have f0 := h.f.1
  have f1 := h.f.2.1
  obtain ⟨o, cap, hv⟩ := h.form
  rw [hv] at f1
  have hd : decide (most ≤ (rows.length : Int)) = true := by simp; omega
  clear h hv hno
  go_enter Try.func41, Try.ntmps41
  go_wp2_with (go_at_call 42; refine hf.out.mono ?_; rintro e w' ⟨rfl, rfl⟩)
  go_quiet (fail)
  go_wp2
  go_ret3
  exact ⟨rfl, _, rfl⟩

theorem info104 : (Try.prog.info? 104).map (fun i => (i.zero, i.size, i.bytes)) = some (some (.agg #[.string ByteArray.empty, .int .u64 0]), 2, 24) := by kernel_rfl

set_option maxRecDepth 100000 in
set_option maxHeartbeats 1000000 in
theorem Rto.rput_new (h : Rto w B r most rows lv) (key : ByteArray) (hm : rows.length ≤ 65536) (hno : ∀ j, j < rows.length → rkey rows j ≠ key) (hroom : (rows.length : Int) < most) :
    Calls Try.prog 41 #[.pointer (some ⟨r, 0, none⟩), .string key] w fun e w' => e = .returned (.tuple #[.int .i64 rows.length, .bool true, .int .i64 0]) ∧ OffR B w w' ∧ ∃ lv', Rto w' B r most (rows ++ [(key, 0)]) lv' := by
  have hf := Lib.hid (h.rfind_no key hm hno)
  have f0 := h.f.1
  obtain ⟨o, cap, rfl⟩ := h.form
  have f1 := h.f.2.1
  have hd : ¬ most ≤ (rows.length : Int) := by omega
  obtain ⟨i104, hi1, ha1, hb1, hc1⟩ := info_parts info104
  have HI := Lib.hid (And.intro hi1 (And.intro ha1 (And.intro hb1 hc1)))
  have HR : Hid (∀ m, Rto (w.drewN m) B r most rows (.slice o rows.length cap)) := Lib.hid fun m => h.of_heap rfl
  have hlt : r < w.heap.size := lt_of_block h.obj
  have hBw := Lib.hid h.hB
  clear h hno hi1 ha1 hb1 hc1
  go_enter Try.func41, Try.ntmps41
  go_wp2_with (go_at_call 42; refine hf.out.mono ?_; rintro e w' ⟨rfl, rfl⟩)
  go_quiet (fail)
  go_wp2_with ((at_builtin; refine wpList_append_own _ rfl _ _ 54 rfl B 104 i104 (.agg #[.string ByteArray.empty, .int .u64 0]) 2 24 Try.underlying54 HI.out.1 HI.out.2.1 HI.out.2.2.1 HI.out.2.2.2 rfl (by decide) _ _ _ rfl ((HR.out _).row.alloc _) ⟨w'.heap.size, 0, none⟩ 1 1 [.string key, .int .u64 0] rfl rfl ?c1 ?c2 ?c3 ?c4 ?c5 ?_))
  case c1 =>
    intro j u hu
    have hn : ((w'.drewN nq).alloc (.cells #[.string key, .int .u64 0] 104)).heap[w'.heap.size]? = some (.cells #[.string key, .int .u64 0] 104 (0, 0)) := heap_alloc_new (w'.drewN nq) _
    have hj : j = 0 ∨ j = 1 := by
      rcases Nat.lt_or_ge j 2 with h | h
      · omega
      · rw [List.getElem?_eq_none (by simp; omega)] at hu; cases hu
    rcases hj with rfl | rfl
    · simp at hu; subst hu; rw [show (⟨w'.heap.size, 0, none⟩ : Addr).add 0 = ⟨w'.heap.size, 0, none⟩ by simp [Addr.add], cell_of_row _ _ _ _ _ _ hn]; rfl
    · simp at hu; subst hu; rw [show (⟨w'.heap.size, 0, none⟩ : Addr).add 1 = ⟨w'.heap.size, 1, none⟩ by simp [Addr.add], cell_of_row _ _ _ _ _ _ hn]; rfl
  case c2 => intro u hu; simp at hu; rcases hu with hu | hu <;> subst hu <;> rfl
  case c3 => unfold maxLen; omega
  case c4 => omega
  case c5 => simp; have := hBw.out; omega
  intro v1 w1 hown1 hgrow1 _
  obtain ⟨⟨q1, qf⟩, hrto, hoff⟩ := (HR.out _).pushed key _ hgrow1 hown1
  obtain ⟨o1, cap1, rfl⟩ : ∃ o cap, v1 = .slice o (rows.length + 1) cap := by
    rcases hown1.2 with ⟨_, h0⟩ | ⟨g, cap, cur, hv, _⟩
    · omega
    · exact ⟨_, _, hv⟩
  have HRT := Lib.hid hrto
  have HO := Lib.hid hoff
  have qf1 := qf 1
  clear hown1 hgrow1 hrto hoff qf HR f0 f1 hf
  go_wp2
  go_ret3
  exact ⟨by simp, ((OffR.refl B _).drewN _).trans HO.out, _, HRT.out⟩
end
end Go.Proofs.Ytbjieimdllapgaa
