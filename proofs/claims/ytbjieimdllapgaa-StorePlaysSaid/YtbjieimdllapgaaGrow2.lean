/- The contract of grow, walked. -/
import Derived.Test.YtbjieimdllapgaaGrow
namespace Go.Proofs.Ytbjieimdllapgaa
open Go.ChangeShapes Go.WideShapes Go.ChangeAt Go.RowKit

theorem still_look {w : World} {B b sb n L j : Nat} {most : Int} {keys : List ByteArray} {bts slots : List Int} {kv bv : Value} (h : Hid (Mid w B b sb most keys bts slots n kv bv L j)) (key : ByteArray) (hs : Hid (key.size ≤ maxLen)) (at' : Nat) (hat : Hid (lookN keys slots n key = at')) :
    Calls Try.prog 48 #[.pointer (some ⟨b, 0, none⟩), .string key] w fun e w' => e = .returned (.int .i64 at') ∧ w' = w := h.out.look key hs.out at' hat

set_option maxRecDepth 100000 in
set_option maxHeartbeats 1000000 in
theorem grow_any {w : World} {B b sb n L : Nat} {most : Int} {keys : List ByteArray} {bts slots : List Int} {kv bv : Value} (h : Sto w B b sb most keys bts slots n kv bv L) (hn : n ≤ 15) :
    Calls Try.prog 47 #[.pointer (some ⟨b, 0, none⟩)] w fun e w' => e = .returned (.tuple #[]) ∧ Off B w w' ∧ ∃ sb' slots', Sto w' B b sb' most keys bts slots' (n + 1) kv bv (2 * L) := by
  have hbd := h.bound
  have hL15 : 2 * L ≤ 65536 := by
    have h1 : 2 ^ n ≤ 2 ^ 15 := Nat.pow_le_pow_right (by decide) hn
    have := h.hL
    omega
  obtain ⟨f0, f1, f2, f3, fz, fs⟩ := h.f
  have fz3 := fz 3
  have hA := h.anew hn
  have hmk : ∀ w : World, (Instr.makeSlice 86 (.int .i64 (2 * (L : Int))) (.int .i64 (2 * (L : Int)))).run Try.prog w = .ok (.slice (some ⟨w.heap.size, 0, none⟩) (2 * L) (2 * L)) (w.alloc (.cells ((List.replicate (2 * L) (0 : Int)).map (Value.int .i32)).toArray 21)) := by
    have := make_slots (2 * L) hL15
    simpa using this
  generalize hz : ((List.replicate (2 * L) (0 : Int)).map (Value.int .i32)).toArray = Z at hmk hA
  obtain ⟨o, cap, hkv⟩ := row_form h.krow
  rw [hkv] at f1
  have HV := Lib.hid hkv
  have HS := Lib.hid h
  have HA := Lib.hid hA
  have hblt : b < w.heap.size := lt_of_block h.obj
  have hK : keys.length ≤ 32768 := by have := h.half; omega
  clear hz hA fz fs hkv
  clear h
  go_enter Try.func47, Try.ntmps47
  go_wp2
  go_loopw [2, 3, 19] (fun _ _ i wr => ∃ (j : Nat) (slots' : List Int), i = .int .i64 j ∧ j ≤ keys.length ∧ Hid (Mid wr B b w.heap.size most keys bts slots' (n + 1) kv bv (2 * L) j ∧ Off B w wr)) (fun _ _ i _ => keys.length - (intOf i).toNat)
  case atStart => exact ⟨0, _, rfl, Nat.zero_le _, HA⟩
  case round =>
    obtain ⟨j, slots', rfl, hj, HM⟩ := hrel
    clear f0 f1 f2 f3 fz3 hmk HA
    by_cases hlt : j < keys.length
    · obtain ⟨f0, f1, f2, f3, fz, fs⟩ := HM.out.1.f
      have HM1 := Lib.hid (HM.out.1.of_heap (w' := wr.drew) rfl)
      have hkj := Lib.hid (HM.out.1.small (keys.getD j ByteArray.empty) (by simp [List.getD_eq_getElem?_getD, hlt]))
      obtain ⟨at', hat⟩ : ∃ a, lookN keys slots' (n + 1) (keys.getD j ByteArray.empty) = a := ⟨_, rfl⟩
      obtain ⟨hl1, hl2, hl3⟩ := HM.out.1.laid hlt at' hat
      have HL2 := Lib.hid hl2
      have HL3 := Lib.hid hl3
      have HAT := Lib.hid hat
      have fsa := fs at'
      have fsl := HM.out.1.slot at' hl1
      generalize slots'.getD at' 0 = old at fsl
      clear fs fz hl2 hl3 hat
      rcases row_cells ByteArray.empty HM.out.1.krow with h0 | ⟨g, cap', hv, _, _, hc, hm, hcell, _⟩
      · rw [h0] at hlt; simp at hlt
      have hoo := HV.out.symm.trans hv
      simp only [Value.slice.injEq] at hoo
      obtain ⟨rfl, _, rfl⟩ := hoo
      have hkc := hcell j hlt
      obtain ⟨K, hK2⟩ : ∃ K, keys.getD j ByteArray.empty = K := ⟨_, rfl⟩
      rw [hK2] at hkc hkj HAT
      have HK := Lib.hid hK2
      clear hcell hv hK2 HV
      have g1 : (at' : Int) < 2 * (L : Int) := by omega
      have g0 : (0 : Int) ≤ at' := by omega
      have hL0 := hbd.1
      clear hbd
      go_wp2
      refine wp_region_still_tail 11 (by kernel_rfl) (by kernel_rfl) ?_
      simp only [List.take_succ_cons, List.take_zero, List.drop_succ_cons, List.drop_zero]
      repeat still_step
      still_call (still_look HM1 _ hkj _ HAT)
      repeat still_step
      refine wpStill_nil ?_
      change wpList _ _ _ _ _ wr.drew
      go_wp2
      go_roundw
      case rel => exact ⟨j + 1, slots'.set at' ((j : Int) + 1), by go_num, by omega, Lib.hid ⟨HL2.out.of_heap rfl, (HM.out.2.trans HL3.out).drew⟩⟩
      case measure => simp [intOf]; omega
    · have hjk : j = keys.length := by omega
      have HS2 := HS.out
      have hf : Hid (∃ sb' slots', Sto wr B b sb' most keys bts slots' (n + 1) kv bv (2 * L)) := Lib.hid ⟨_, _, (hjk ▸ HM.out.1).whole HS2.lens (by have := HS2.half; omega) HS2.lo HS2.hi HS2.room HS2.fits⟩
      clear HS2 hjk
      go_wp2
      go_end0
      exact ⟨rfl, HM.out.2, hf.out⟩
end Go.Proofs.Ytbjieimdllapgaa
