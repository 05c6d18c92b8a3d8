/- The contract of Put, walked. -/
import Derived.Test.YtbjieimdllapgaaPut
namespace Go.Proofs.Ytbjieimdllapgaa
open Go.ChangeShapes Go.WideShapes Go.ChangeAt Go.RowKit

section
variable {w : World} {B b sb n L : Nat} {most : Int} {keys : List ByteArray} {bts slots : List Int} {kv bv : Value}

theorem Sto.put_yes (h : Sto w B b sb most keys bts slots n kv bv L) (key : ByteArray) (hs : key.size ≤ maxLen) (i : Nat) (hi : i < keys.length) (hk : keys.getD i ByteArray.empty = key) :
    Calls Try.prog 25 #[.pointer (some ⟨b, 0, none⟩), .string key] w fun e w' => e = .returned (.tuple #[.int .i64 i, .bool false, .int .i64 0]) ∧ ∃ k, w' = w.drewN k := by
  have hf := Lib.hid (h.find_yes key hs i hi hk)
  clear h hk
  go_enter Try.func25, Try.ntmps25
  go_wp2_with (go_at_call 27; refine hf.out.mono ?_; rintro e w' ⟨rfl, k, rfl⟩)
  go_ret3
  exact ⟨rfl, _, rfl⟩

set_option maxHeartbeats 1000000 in
theorem Sto.put_full (h : Sto w B b sb most keys bts slots n kv bv L) (key : ByteArray) (hs : key.size ≤ maxLen) (hno : ∀ i, i < keys.length → keys.getD i ByteArray.empty ≠ key) (hfull : (keys.length : Int) = most) :
    Calls Try.prog 25 #[.pointer (some ⟨b, 0, none⟩), .string key] w fun e w' => e = .returned (.tuple #[.int .i64 0, .bool false, .int .i64 45]) ∧ ∃ k, w' = w.drewN k := by
  have hf := Lib.hid (h.find_no key hs hno)
  obtain ⟨o, cap, hkv⟩ := row_form h.krow
  have f0 := h.f.1
  have f1 := h.f.2.1
  rw [hkv] at f1
  rw [← hfull] at f0
  have hq : (((keys.length : Nat) : Int) == ((keys.length : Nat) : Int)) = true := by simp
  clear h hkv hno hfull
  go_enter Try.func25, Try.ntmps25
  go_wp2_with (go_at_call 27; refine hf.out.mono ?_; rintro e w' ⟨rfl, k, rfl⟩)
  go_quiet (fail)
  go_wp2
  go_ret3
  exact ⟨rfl, _, World.drewN_drewN _ _ _⟩

theorem info9 : (Try.prog.info? 9).map (fun i => (i.zero, i.size, i.bytes)) = some (some (.string ByteArray.empty), 1, 16) := by kernel_rfl
theorem info58 : (Try.prog.info? 58).map (fun i => (i.zero, i.size, i.bytes)) = some (some (.int .u64 0), 1, 8) := by kernel_rfl

set_option maxRecDepth 100000 in
set_option maxHeartbeats 2000000 in
theorem Sto.put_new (h : Sto w B b sb most keys bts slots n kv bv L) (key : ByteArray) (hs : key.size ≤ maxLen) (hno : ∀ i, i < keys.length → keys.getD i ByteArray.empty ≠ key) (hroom : (keys.length : Int) < most) (hhalf : 2 * keys.length < L) :
    Calls Try.prog 25 #[.pointer (some ⟨b, 0, none⟩), .string key] w fun e w' => e = .returned (.tuple #[.int .i64 keys.length, .bool true, .int .i64 0]) ∧ Off B w w' ∧ ∃ sb' slots' n' kv' bv' L', Sto w' B b sb' most (keys ++ [key]) (bts ++ [0]) slots' n' kv' bv' L' := by
  have hf := Lib.hid (h.find_no key hs hno)
  obtain ⟨o, cap, rfl⟩ := row_form h.krow
  have f0 := h.f.1
  have f1 := h.f.2.1
  have f3 := h.f.2.2.2.1
  have hbd := h.bound
  have hhi := h.hi
  have hq : (((keys.length : Nat) : Int) == most) = false := by simp; omega
  have HS := Lib.hid h
  have HN := Lib.hid hno
  have hblt : b < w.heap.size := lt_of_block h.obj
  obtain ⟨hbd1, hbd2, _⟩ := hbd
  obtain ⟨i9, hi9, ha9, hb9, hc9⟩ := info_parts info9
  obtain ⟨i58, hi58, ha58, hb58, hc58⟩ := info_parts info58
  have HI9 := Lib.hid (And.intro hi9 (And.intro ha9 (And.intro hb9 hc9)))
  have HI58 := Lib.hid (And.intro hi58 (And.intro ha58 (And.intro hb58 hc58)))
  have hlen1 : bts.length ≤ 32768 := by have := h.lens; omega
  have hlen2 : keys.length ≤ 32768 := by omega
  clear h hno hi9 ha9 hb9 hc9 hi58 ha58 hb58 hc58
  have HR : Hid (∀ m, Raw (w.drewN m) B b sb most keys bts slots (.slice o keys.length cap) bv L) := Lib.hid fun m => HS.out.raw.of_heap rfl
  go_enter Try.func25, Try.ntmps25
  go_wp2_with (go_at_call 27; refine hf.out.mono ?_; rintro e w' ⟨rfl, k, rfl⟩)
  go_quiet (fail)
  go_wp2
  go_quiet (fail)
  go_wp2_with ((at_builtin; refine wpList_append_own _ rfl _ _ 63 rfl B 9 i9 (.string ByteArray.empty) 1 16 Try.underlying63 HI9.out.1 HI9.out.2.1 HI9.out.2.2.1 HI9.out.2.2.2 rfl (by decide) _ _ _ rfl ((HR.out _).krow.alloc _) ⟨w.heap.size, 0, none⟩ 1 1 [.string key] rfl rfl ?c1 ?c2 ?c3 ?c4 ?c5 ?_))
  case c1 =>
    intro j u hu
    have hj0 : j = 0 := by
      rcases Nat.eq_zero_or_pos j with h | h
      · exact h
      · rw [List.getElem?_eq_none (by simp; omega)] at hu; cases hu
    subst hj0
    simp at hu
    subst hu
    exact cell_of_one (heap_alloc_new _ _)
  case c2 => intro u hu; simp at hu; subst hu; rfl
  case c3 => unfold maxLen; omega
  case c4 => omega
  case c5 => simp; have := HS.out.hB; omega
  intro v1 w1 hown1 hgrow1 _
  obtain ⟨⟨q1, q2, q3, qf⟩, hraw1, hoff1⟩ := (HR.out _).push_key key _ hgrow1 hown1
  have HR1 := Lib.hid hraw1
  have HO1 := Lib.hid hoff1
  obtain ⟨o1, cap1, rfl⟩ : ∃ o cap, v1 = .slice o (keys.length + 1) cap := by
    rcases hown1.2 with ⟨_, h0⟩ | ⟨g, cap, cur, hv, _⟩
    · omega
    · exact ⟨_, _, hv⟩
  have qf1 := qf 1
  have qf2 := qf 2
  clear hown1 hgrow1 hraw1 hoff1 qf HR f0 f1 f3 hf
  go_wp2_with ((at_builtin; refine wpList_append_own _ rfl _ _ 87 rfl B 58 i58 (.int .u64 0) 1 8 Try.underlying87 HI58.out.1 HI58.out.2.1 HI58.out.2.2.1 HI58.out.2.2.2 rfl (by decide) _ _ _ rfl (HR1.out.brow.alloc _) ⟨w1.heap.size, 0, none⟩ 1 1 [.int .u64 0] rfl rfl ?d1 ?d2 ?d3 ?d4 ?d5 ?_))
  case d1 =>
    intro j u hu
    have hj0 : j = 0 := by
      rcases Nat.eq_zero_or_pos j with h | h
      · exact h
      · rw [List.getElem?_eq_none (by simp; omega)] at hu; cases hu
    subst hj0
    simp at hu
    subst hu
    have h2 := heap_alloc_new (w1.setCell ⟨b, 1, none⟩ (.slice o1 (keys.length + 1) cap1)) (.cells #[.int .u64 0] 58)
    have hsz : (w1.setCell ⟨b, 1, none⟩ (.slice o1 (keys.length + 1) cap1)).heap.size = w1.heap.size := by
      show (w1.heap.modify b _).size = _
      simp
    rw [hsz] at h2
    exact cell_of_one h2
  case d2 => intro u hu; simp at hu; subst hu; rfl
  case d3 => unfold maxLen; omega
  case d4 => omega
  case d5 => exact Nat.le_trans HR1.out.hB (by simp)
  intro v2 w2 hown2 hgrow2 _
  obtain ⟨o2, cap2, rfl⟩ : ∃ o cap, v2 = .slice o (bts.length + 1) cap := by
    rcases hown2.2 with ⟨_, h0⟩ | ⟨g, cap, cur, hv, _⟩
    · omega
    · exact ⟨_, _, hv⟩
  obtain ⟨⟨r1, r2, r3, rf⟩, rsl, rfs, hne, hraw2, hoff2⟩ := HR1.out.push_bits 0 _ hgrow2 hown2
  have hM := hraw2.mid HS.out HN.out hs hhalf
  obtain ⟨at', hat⟩ : ∃ a, lookN (keys ++ [key]) slots n key = a := ⟨_, rfl⟩
  obtain ⟨hl1, hl2, hl3⟩ := hM.laid (by simp) at' (by rw [getD_last]; exact hat)
  have HL2 := Lib.hid hl2
  have HL3 := Lib.hid hl3
  have HAT := Lib.hid hat
  have HMd := Lib.hid hM
  have HO2 := Lib.hid hoff2
  have hks := Lib.hid hs
  have rsa := rsl at' (by rw [HS.out.sane.len, ← HS.out.hL]; exact hl1)
  generalize slots.getD at' 0 = old at rsa
  have rfa := rfs at'
  have rf2 := rf 2
  have rf3 := rf 3
  have g1 : (at' : Int) < (L : Int) := by omega
  have g0 : (0 : Int) ≤ at' := by omega
  clear hown2 hgrow2 hraw2 hoff2 rsl rfs rf hl2 hl3 hat hM q1 q2 q3 qf1 qf2
  go_wp2_with fail
  have hne2 : b ≠ sb := Ne.symm hne
  clear r1 r2 r3 rsa rfa rf2 rf3
  generalize w2.setCell ⟨b, 2, none⟩ (.slice o2 (bts.length + 1) cap2) = W at *
  have HMd2 := Lib.hid (HMd.out.of_heap (w' := W.drew) rfl)
  obtain ⟨_, c1, _, c3, _, cf⟩ := HMd.out.f
  have csl := HMd.out.slot at' hl1
  generalize slots.getD at' 0 = old2 at csl
  have cfa := cf at'
  clear cf
  refine wp_region_still_tail 14 (by kernel_rfl) (by kernel_rfl) ?_
  simp only [List.take_succ_cons, List.take_zero, List.drop_succ_cons, List.drop_zero]
  repeat still_step
  still_call (still_look HMd2 _ hks _ HAT)
  repeat still_step
  refine wpStill_nil ?_
  change wpList _ _ _ _ _ W.drew
  go_wp2
  go_ret3
  have hfin : Sto ((W.setCell ⟨sb, at', none⟩ (.int .i32 ((keys.length : Int) + 1))).drew) B b sb most (keys ++ [key]) (bts ++ [0]) (slots.set at' ((keys.length : Int) + 1)) n (.slice o1 (keys.length + 1) cap1) (.slice o2 (bts.length + 1) cap2) L := by
    refine Mid.whole ?_ ?_ ?_ HS.out.lo HS.out.hi ?_ ?_
    · have := HL2.out.of_heap (w' := (W.setCell ⟨sb, at', none⟩ (.int .i32 ((keys.length : Int) + 1))).drew) rfl
      simpa using this
    · simp [HS.out.lens]
    · have h1 := HS.out.hL
      have h2 := HS.out.sane.lo
      obtain ⟨m, hm⟩ : ∃ m, n = m + 1 := ⟨n - 1, by omega⟩
      rw [hm, Nat.pow_succ] at h1
      simp
      omega
    · simp; omega
    · intro x hx
      simp at hx
      rcases hx with hx | hx
      · exact HS.out.fits x hx
      · subst hx; decide
  exact ⟨by simp, (((Off.refl B w).drewN _).trans ((HO1.out.trans HO2.out).trans HL3.out)).drew, _, _, _, _, _, _, hfin⟩

set_option maxRecDepth 100000 in
set_option maxHeartbeats 2000000 in
theorem Sto.put_grow (h : Sto w B b sb most keys bts slots n kv bv L) (key : ByteArray) (hs : key.size ≤ maxLen) (hno : ∀ i, i < keys.length → keys.getD i ByteArray.empty ≠ key) (hroom : (keys.length : Int) < most) (hhalf : L ≤ 2 * keys.length) :
    Calls Try.prog 25 #[.pointer (some ⟨b, 0, none⟩), .string key] w fun e w' => e = .returned (.tuple #[.int .i64 keys.length, .bool true, .int .i64 0]) ∧ Off B w w' ∧ ∃ sb' slots' n' kv' bv' L', Sto w' B b sb' most (keys ++ [key]) (bts ++ [0]) slots' n' kv' bv' L' := by
  have hf := Lib.hid (h.find_no key hs hno)
  obtain ⟨o, cap, rfl⟩ := row_form h.krow
  have f0 := h.f.1
  have f1 := h.f.2.1
  have f3 := h.f.2.2.2.1
  obtain ⟨hbd1, hbd2, _⟩ := h.bound
  have hhi := h.hi
  have hn15 : n ≤ 15 := by
    have h1 := h.sane.hi
    rcases Nat.lt_or_ge n 16 with h2 | h2
    · omega
    · have h3 : n = 16 := by omega
      have h4 := h.hL
      rw [h3] at h4
      simp at h4
      omega
  have hq : (((keys.length : Nat) : Int) == most) = false := by simp; omega
  have hgr := Lib.hid fun m => grow_any (h.of_heap (w' := w.drewN m) rfl) hn15
  have HN := Lib.hid hno
  obtain ⟨i9, hi9, ha9, hb9, hc9⟩ := info_parts info9
  obtain ⟨i58, hi58, ha58, hb58, hc58⟩ := info_parts info58
  have HI9 := Lib.hid (And.intro hi9 (And.intro ha9 (And.intro hb9 hc9)))
  have HI58 := Lib.hid (And.intro hi58 (And.intro ha58 (And.intro hb58 hc58)))
  have hlen1 : bts.length ≤ 32768 := by have := h.lens; omega
  have hlen2 : keys.length ≤ 32768 := by omega
  have hhalf0 : 2 * keys.length < 2 * L := by have := h.half; omega
  clear h hno hi9 ha9 hb9 hc9 hi58 ha58 hb58 hc58 hn15
  go_enter Try.func25, Try.ntmps25
  go_wp2_with (go_at_call 27; refine hf.out.mono ?_; rintro e w' ⟨rfl, k, rfl⟩)
  go_quiet (fail)
  go_wp2
  go_quiet (fail)
  go_wp2_with fail
  refine (hgr.out _).mono ?_
  rintro e w3 ⟨rfl, hoffg, sb3, slots3, hsto3⟩
  obtain ⟨LL, hLL⟩ : ∃ LL, 2 * L = LL := ⟨_, rfl⟩
  obtain ⟨nn, hnn⟩ : ∃ nn, n + 1 = nn := ⟨_, rfl⟩
  rw [hLL, hnn] at hsto3
  have hhalf3 : 2 * keys.length < LL := by omega
  have HG := Lib.hid hoffg
  have HS3 := Lib.hid hsto3
  have HR3 := Lib.hid hsto3.raw
  obtain ⟨f0', f1', f2', f3', _⟩ := hsto3.f
  have hz1 : 64 ≤ LL := hsto3.bound.1
  have hz2 : LL ≤ 65536 := hsto3.bound.2.1
  have hblt : b < w3.heap.size := lt_of_block hsto3.obj
  clear hLL hnn hoffg hsto3 hgr hhalf hhalf0 f0 f1 f3 hf hbd1 hbd2
  go_wp2_with ((at_builtin; refine wpList_append_own _ rfl _ _ 63 rfl B 9 i9 (.string ByteArray.empty) 1 16 Try.underlying63 HI9.out.1 HI9.out.2.1 HI9.out.2.2.1 HI9.out.2.2.2 rfl (by decide) _ _ _ rfl (HR3.out.krow.alloc _) ⟨w3.heap.size, 0, none⟩ 1 1 [.string key] rfl rfl ?c1 ?c2 ?c3 ?c4 ?c5 ?_))
  case c1 =>
    intro j u hu
    have hj0 : j = 0 := by
      rcases Nat.eq_zero_or_pos j with h | h
      · exact h
      · rw [List.getElem?_eq_none (by simp; omega)] at hu; cases hu
    subst hj0
    simp at hu
    subst hu
    exact cell_of_one (heap_alloc_new _ _)
  case c2 => intro u hu; simp at hu; subst hu; rfl
  case c3 => unfold maxLen; omega
  case c4 => omega
  case c5 => simp; have := HS3.out.hB; omega
  intro v1 w1 hown1 hgrow1 _
  obtain ⟨⟨q1, q2, q3, qf⟩, hraw1, hoff1⟩ := HR3.out.push_key key _ hgrow1 hown1
  have HR1 := Lib.hid hraw1
  have HO1 := Lib.hid hoff1
  obtain ⟨o1, cap1, rfl⟩ : ∃ o cap, v1 = .slice o (keys.length + 1) cap := by
    rcases hown1.2 with ⟨_, h0⟩ | ⟨g, cap, cur, hv, _⟩
    · omega
    · exact ⟨_, _, hv⟩
  have qf1 := qf 1
  have qf2 := qf 2
  clear hown1 hgrow1 hraw1 hoff1 qf HR3
  go_wp2_with ((at_builtin; refine wpList_append_own _ rfl _ _ 87 rfl B 58 i58 (.int .u64 0) 1 8 Try.underlying87 HI58.out.1 HI58.out.2.1 HI58.out.2.2.1 HI58.out.2.2.2 rfl (by decide) _ _ _ rfl (HR1.out.brow.alloc _) ⟨w1.heap.size, 0, none⟩ 1 1 [.int .u64 0] rfl rfl ?d1 ?d2 ?d3 ?d4 ?d5 ?_))
  case d1 =>
    intro j u hu
    have hj0 : j = 0 := by
      rcases Nat.eq_zero_or_pos j with h | h
      · exact h
      · rw [List.getElem?_eq_none (by simp; omega)] at hu; cases hu
    subst hj0
    simp at hu
    subst hu
    have h2 := heap_alloc_new (w1.setCell ⟨b, 1, none⟩ (.slice o1 (keys.length + 1) cap1)) (.cells #[.int .u64 0] 58)
    have hsz : (w1.setCell ⟨b, 1, none⟩ (.slice o1 (keys.length + 1) cap1)).heap.size = w1.heap.size := by
      show (w1.heap.modify b _).size = _
      simp
    rw [hsz] at h2
    exact cell_of_one h2
  case d2 => intro u hu; simp at hu; subst hu; rfl
  case d3 => unfold maxLen; omega
  case d4 => omega
  case d5 => exact Nat.le_trans HR1.out.hB (by simp)
  intro v2 w2 hown2 hgrow2 _
  obtain ⟨o2, cap2, rfl⟩ : ∃ o cap, v2 = .slice o (bts.length + 1) cap := by
    rcases hown2.2 with ⟨_, h0⟩ | ⟨g, cap, cur, hv, _⟩
    · omega
    · exact ⟨_, _, hv⟩
  obtain ⟨⟨r1, r2, r3, rf⟩, rsl, rfs, hne, hraw2, hoff2⟩ := HR1.out.push_bits 0 _ hgrow2 hown2
  have hM := hraw2.mid HS3.out HN.out hs hhalf3
  obtain ⟨at', hat⟩ : ∃ a, lookN (keys ++ [key]) slots3 nn key = a := ⟨_, rfl⟩
  obtain ⟨hl1, hl2, hl3⟩ := hM.laid (by simp) at' (by rw [getD_last]; exact hat)
  have HL2 := Lib.hid hl2
  have HL3 := Lib.hid hl3
  have HAT := Lib.hid hat
  have HMd := Lib.hid hM
  have HO2 := Lib.hid hoff2
  have hks := Lib.hid hs
  have rsa := rsl at' (by rw [HS3.out.sane.len, ← HS3.out.hL]; exact hl1)
  generalize slots3.getD at' 0 = old at rsa
  have rfa := rfs at'
  have rf2 := rf 2
  have rf3 := rf 3
  have g1 : (at' : Int) < (LL : Int) := by omega
  have g0 : (0 : Int) ≤ at' := by omega
  clear hown2 hgrow2 hraw2 hoff2 rsl rfs rf hl2 hl3 hat hM q1 q2 q3 qf1 qf2
  go_wp2_with fail
  have hne2 : b ≠ sb3 := Ne.symm hne
  clear r1 r2 r3 rsa rfa rf2 rf3
  generalize w2.setCell ⟨b, 2, none⟩ (.slice o2 (bts.length + 1) cap2) = W at *
  have HMd2 := Lib.hid (HMd.out.of_heap (w' := W.drew) rfl)
  obtain ⟨_, c1, _, c3, _, cf⟩ := HMd.out.f
  have csl := HMd.out.slot at' hl1
  generalize slots3.getD at' 0 = old2 at csl
  have cfa := cf at'
  clear cf
  refine wp_region_still_tail 14 (by kernel_rfl) (by kernel_rfl) ?_
  simp only [List.take_succ_cons, List.take_zero, List.drop_succ_cons, List.drop_zero]
  repeat still_step
  still_call (still_look HMd2 _ hks _ HAT)
  repeat still_step
  refine wpStill_nil ?_
  change wpList _ _ _ _ _ W.drew
  go_wp2
  go_ret3
  have hfin : Sto ((W.setCell ⟨sb3, at', none⟩ (.int .i32 ((keys.length : Int) + 1))).drew) B b sb3 most (keys ++ [key]) (bts ++ [0]) (slots3.set at' ((keys.length : Int) + 1)) nn (.slice o1 (keys.length + 1) cap1) (.slice o2 (bts.length + 1) cap2) LL := by
    refine Mid.whole ?_ ?_ ?_ HS3.out.lo HS3.out.hi ?_ ?_
    · have := HL2.out.of_heap (w' := (W.setCell ⟨sb3, at', none⟩ (.int .i32 ((keys.length : Int) + 1))).drew) rfl
      simpa using this
    · simp [HS3.out.lens]
    · have h1 := HS3.out.hL
      have h2 := HS3.out.sane.lo
      obtain ⟨m, hm⟩ : ∃ m, nn = m + 1 := ⟨nn - 1, by omega⟩
      rw [hm, Nat.pow_succ] at h1
      simp
      omega
    · simp; omega
    · intro x hx
      simp at hx
      rcases hx with hx | hx
      · exact HS3.out.fits x hx
      · subst hx; decide
  exact ⟨by simp, ((((Off.refl B w).drewN _).trans HG.out).trans ((HO1.out.trans HO2.out).trans HL3.out)).drew, _, _, _, _, _, _, hfin⟩
end
end Go.Proofs.Ytbjieimdllapgaa
