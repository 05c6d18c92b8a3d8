/- One act on both stores: both answer alike. -/
import Derived.Test.YtbjieimdllapgaaRefWalk
namespace Go.Proofs.Ytbjieimdllapgaa
open Go.ChangeShapes Go.WideShapes Go.ChangeAt Go.RowKit

/-- Both stores hold the same rows. -/
def Both (w : World) (B b r : Nat) (most : Int) (rows : List (ByteArray × Int)) : Prop :=
  Has w B b most (rows.map Prod.fst) (rows.map Prod.snd) ∧ ∃ lv, Rto w B r most rows lv

def Box (w : World) (x : Nat) (kind n : Int) (key : ByteArray) (bts : Int) : Prop :=
  w.heap[x]? = some (.cells #[.int .i64 kind, .int .i64 n, .string key, .int .u64 bts] 60 (0, 0))

theorem Has.nodup {w : World} {B b : Nat} {most : Int} {keys : List ByteArray} {bts : List Int} (h : Has w B b most keys bts) :
    (∀ i i', i < keys.length → i' < keys.length → keys.getD i ByteArray.empty = keys.getD i' ByteArray.empty → i = i') ∧ most ≤ 20000 := by
  obtain ⟨sb, slots, n, kv, bv, L, h⟩ := h
  exact ⟨h.nodup, h.hi⟩

section
variable {w w' : World} {B b r x : Nat} {most kind n bts : Int} {rows : List (ByteArray × Int)} {key : ByteArray}

theorem Both.small (h : Both w B b r most rows) : (rows.length : Int) ≤ most ∧ most ≤ 20000 ∧ rows.length ≤ 65536 := by
  have h1 := h.1.room.1
  have h2 := h.1.nodup.2
  simp at h1
  exact ⟨h1, h2, by omega⟩

theorem Both.alloc (h : Both w B b r most rows) (o : Obj) : Both (w.alloc o) B b r most rows := by
  obtain ⟨h1, lv, h2⟩ := h
  exact ⟨h1.offR ((OffR.refl B w).alloc o), lv, h2.off ((Off.refl B w).alloc o)⟩

theorem Box.f (h : Box w x kind n key bts) : w.cell? ⟨x, 0, none⟩ = some (.int .i64 kind) ∧ w.cell? ⟨x, 1, none⟩ = some (.int .i64 n) ∧ w.cell? ⟨x, 2, none⟩ = some (.string key) ∧ w.cell? ⟨x, 3, none⟩ = some (.int .u64 bts) :=
  ⟨by rw [cell_of_row _ _ _ _ _ _ h]; rfl, by rw [cell_of_row _ _ _ _ _ _ h]; rfl, by rw [cell_of_row _ _ _ _ _ _ h]; rfl, by rw [cell_of_row _ _ _ _ _ _ h]; rfl⟩

theorem Box.off (h : Box w x kind n key bts) (ho : Off B w w') : Box w' x kind n key bts := ho.keeps h (by decide) (by decide) (by decide) (by decide)
theorem Box.offR (h : Box w x kind n key bts) (ho : OffR B w w') : Box w' x kind n key bts := ho.keeps h (by decide) (by decide)

theorem Both.least (h : Both w B b r most rows) (key : ByteArray) : (∃ i, i < rows.length ∧ rkey rows i = key ∧ ∀ j, j < i → rkey rows j ≠ key) ∨ (∀ j, j < rows.length → rkey rows j ≠ key) := by
  by_cases hex : ∃ i, i < rows.length ∧ rkey rows i = key
  · obtain ⟨i, hi, hk⟩ := hex
    left
    refine ⟨i, hi, hk, fun j hj he => ?_⟩
    have := h.1.nodup.1 i j (by simpa using hi) (by simp; omega) (by show rkey rows i = rkey rows j; rw [hk, he])
    omega
  · right
    exact fun j hj he => hex ⟨j, hj, he⟩

/-- What one act leaves. -/
def Done (B : Nat) (w0 : World) (b r : Nat) (most : Int) (w' : World) : Prop := Below B w0 w' ∧ ∃ rows', Both w' B b r most rows'

set_option maxRecDepth 100000 in
set_option maxHeartbeats 2000000 in
theorem does_put_yes (h : Both w B b r most rows) (w0 : World) (hB : Below B w0 w) (hsz : B ≤ w.heap.size) (n bts : Int) (key : ByteArray) (hs : key.size ≤ maxLen) (i : Nat) (hi : i < rows.length) (hk : rkey rows i = key) (hmin : ∀ j, j < i → rkey rows j ≠ key) :
    Calls Try.prog 23 #[.pointer (some ⟨b, 0, none⟩), .pointer (some ⟨r, 0, none⟩), .agg #[.int .i64 1, .int .i64 n, .string key, .int .u64 bts]] w fun e w' => e = .returned (.bool true) ∧ Done B w0 b r most w' := by
  have HSM := Lib.hid h.small
  have HKS := Lib.hid hs
  have HA0 := Lib.hid (h.alloc (.cells #[.int .i64 1, .int .i64 n, .string key, .int .u64 bts] 60))
  have HX0 : Hid (Box (w.alloc (.cells #[.int .i64 1, .int .i64 n, .string key, .int .u64 bts] 60)) w.heap.size 1 n key bts) := Lib.hid (heap_alloc_new w _)
  have HB0 := Lib.hid (hB.alloc hsz (.cells #[.int .i64 1, .int .i64 n, .string key, .int .u64 bts] 60))
  have HSZ : Hid (B ≤ (w.alloc (.cells #[.int .i64 1, .int .i64 n, .string key, .int .u64 bts] 60)).heap.size) := Lib.hid (by simp; omega)
  clear h hs hB hsz
  have HK := Lib.hid hk
  have HM := Lib.hid hmin
  clear hk hmin
  go_enter Try.func23, Try.ntmps23
  go_wp2_with fail
  refine (HA0.out.1.put_yes key HKS.out i (by simpa using hi) HK.out).mono ?_
  rintro e w1 ⟨rfl, hl⟩
  have HO1 := Lib.hid hl.1
  have HH1 := Lib.hid hl.2
  have HX1 := Lib.hid (HX0.out.off (B := B) HO1.out)
  obtain ⟨d0, d1, d2, d3⟩ := HX1.out.f
  clear hl
  obtain ⟨lv, hrt⟩ := HA0.out.2
  have HR1 := Lib.hid (hrt.off HO1.out)
  clear hrt
  go_wp2_with fail
  refine (HR1.out.rput_yes key HSM.out.2.2 i hi HK.out HM.out).mono ?_
  rintro e w2 ⟨rfl, rfl⟩
  go_wp2
  go_ret
  exact ⟨rfl, HO1.out.below HB0.out HSZ.out, rows, HH1.out, _, HR1.out⟩

set_option maxRecDepth 100000 in
set_option maxHeartbeats 2000000 in
theorem does_put_full (h : Both w B b r most rows) (w0 : World) (hB : Below B w0 w) (hsz : B ≤ w.heap.size) (n bts : Int) (key : ByteArray) (hs : key.size ≤ maxLen) (hno : ∀ j, j < rows.length → rkey rows j ≠ key) (hfull : (rows.length : Int) = most) :
    Calls Try.prog 23 #[.pointer (some ⟨b, 0, none⟩), .pointer (some ⟨r, 0, none⟩), .agg #[.int .i64 1, .int .i64 n, .string key, .int .u64 bts]] w fun e w' => e = .returned (.bool true) ∧ Done B w0 b r most w' := by
  have HSM := Lib.hid h.small
  have HKS := Lib.hid hs
  have HA0 := Lib.hid (h.alloc (.cells #[.int .i64 1, .int .i64 n, .string key, .int .u64 bts] 60))
  have HX0 : Hid (Box (w.alloc (.cells #[.int .i64 1, .int .i64 n, .string key, .int .u64 bts] 60)) w.heap.size 1 n key bts) := Lib.hid (heap_alloc_new w _)
  have HB0 := Lib.hid (hB.alloc hsz (.cells #[.int .i64 1, .int .i64 n, .string key, .int .u64 bts] 60))
  have HSZ : Hid (B ≤ (w.alloc (.cells #[.int .i64 1, .int .i64 n, .string key, .int .u64 bts] 60)).heap.size) := Lib.hid (by simp; omega)
  clear h hs hB hsz
  have HM := Lib.hid hno
  have HF := Lib.hid hfull
  clear hno hfull
  go_enter Try.func23, Try.ntmps23
  go_wp2_with fail
  refine (HA0.out.1.put_full key HKS.out (fun j hj => HM.out j (by simpa using hj)) (by simpa using HF.out)).mono ?_
  rintro e w1 ⟨rfl, hl⟩
  have HO1 := Lib.hid hl.1
  have HH1 := Lib.hid hl.2
  have HX1 := Lib.hid (HX0.out.off (B := B) HO1.out)
  obtain ⟨d0, d1, d2, d3⟩ := HX1.out.f
  clear hl
  obtain ⟨lv, hrt⟩ := HA0.out.2
  have HR1 := Lib.hid (hrt.off HO1.out)
  clear hrt
  go_wp2_with fail
  refine (HR1.out.rput_full key HSM.out.2.2 HM.out (by have := HF.out; omega)).mono ?_
  rintro e w2 ⟨rfl, k, rfl⟩
  go_wp2
  go_ret
  exact ⟨rfl, (HO1.out.drewN k).below HB0.out HSZ.out, rows, HH1.out.of_heap rfl, _, HR1.out.of_heap rfl⟩

set_option maxRecDepth 100000 in
set_option maxHeartbeats 2000000 in
theorem does_put_new (h : Both w B b r most rows) (w0 : World) (hB : Below B w0 w) (hsz : B ≤ w.heap.size) (n bts : Int) (key : ByteArray) (hs : key.size ≤ maxLen) (hno : ∀ j, j < rows.length → rkey rows j ≠ key) (hroom : (rows.length : Int) < most) :
    Calls Try.prog 23 #[.pointer (some ⟨b, 0, none⟩), .pointer (some ⟨r, 0, none⟩), .agg #[.int .i64 1, .int .i64 n, .string key, .int .u64 bts]] w fun e w' => e = .returned (.bool true) ∧ Done B w0 b r most w' := by
  have HSM := Lib.hid h.small
  have HKS := Lib.hid hs
  have HA0 := Lib.hid (h.alloc (.cells #[.int .i64 1, .int .i64 n, .string key, .int .u64 bts] 60))
  have HX0 : Hid (Box (w.alloc (.cells #[.int .i64 1, .int .i64 n, .string key, .int .u64 bts] 60)) w.heap.size 1 n key bts) := Lib.hid (heap_alloc_new w _)
  have HB0 := Lib.hid (hB.alloc hsz (.cells #[.int .i64 1, .int .i64 n, .string key, .int .u64 bts] 60))
  have HSZ : Hid (B ≤ (w.alloc (.cells #[.int .i64 1, .int .i64 n, .string key, .int .u64 bts] 60)).heap.size) := Lib.hid (by simp; omega)
  clear h hs hB hsz
  have HM := Lib.hid hno
  have HF := Lib.hid hroom
  clear hno hroom
  go_enter Try.func23, Try.ntmps23
  go_wp2_with fail
  refine (HA0.out.1.put_new key HKS.out (fun j hj => HM.out j (by simpa using hj)) (by simpa using HF.out)).mono ?_
  rintro e w1 ⟨rfl, hl⟩
  have HO1 := Lib.hid hl.1
  have HH1 := Lib.hid hl.2
  have HX1 := Lib.hid (HX0.out.off (B := B) HO1.out)
  obtain ⟨d0, d1, d2, d3⟩ := HX1.out.f
  clear hl
  obtain ⟨lv, hrt⟩ := HA0.out.2
  have HR1 := Lib.hid (hrt.off HO1.out)
  clear hrt
  go_wp2_with fail
  refine (HR1.out.rput_new key HSM.out.2.2 HM.out HF.out).mono ?_
  rintro e w2 ⟨rfl, ho, lv', hr2⟩
  have HO2 := Lib.hid ho
  have HR2 := Lib.hid hr2
  clear ho hr2
  go_wp2
  go_ret
  exact ⟨by simp, HO2.out.below (HO1.out.below HB0.out HSZ.out) (Nat.le_trans HSZ.out HO1.out.size), rows ++ [(key, 0)], by simpa using HH1.out.offR HO2.out, _, HR2.out⟩

theorem map_fst_set (rows : List (ByteArray × Int)) (i : Nat) (hi : i < rows.length) (Y : Int) : (rows.set i (rows[i].1, Y)).map Prod.fst = rows.map Prod.fst := by
  rw [List.map_set]
  have : (rows.map Prod.fst)[i]'(by simpa using hi) = rows[i].1 := by simp
  rw [show ((rows[i].1, Y) : ByteArray × Int).fst = (rows.map Prod.fst)[i]'(by simpa using hi) from this.symm]
  exact List.set_getElem_self _
theorem map_snd_set (rows : List (ByteArray × Int)) (i : Nat) (hi : i < rows.length) (Y : Int) : (rows.set i (rows[i].1, Y)).map Prod.snd = (rows.map Prod.snd).set i Y := by
  rw [List.map_set]

set_option maxRecDepth 100000 in
set_option maxHeartbeats 2000000 in
theorem does_find_yes (h : Both w B b r most rows) (w0 : World) (hB : Below B w0 w) (hsz : B ≤ w.heap.size) (n bts : Int) (key : ByteArray) (hs : key.size ≤ maxLen) (i : Nat) (hi : i < rows.length) (hk : rkey rows i = key) (hmin : ∀ j, j < i → rkey rows j ≠ key) :
    Calls Try.prog 23 #[.pointer (some ⟨b, 0, none⟩), .pointer (some ⟨r, 0, none⟩), .agg #[.int .i64 2, .int .i64 n, .string key, .int .u64 bts]] w fun e w' => e = .returned (.bool true) ∧ Done B w0 b r most w' := by
  have HSM := Lib.hid h.small
  have HKS := Lib.hid hs
  have HA0 := Lib.hid (h.alloc (.cells #[.int .i64 2, .int .i64 n, .string key, .int .u64 bts] 60))
  have HX0 : Hid (Box (w.alloc (.cells #[.int .i64 2, .int .i64 n, .string key, .int .u64 bts] 60)) w.heap.size 2 n key bts) := Lib.hid (heap_alloc_new w _)
  have HB0 := Lib.hid (hB.alloc hsz (.cells #[.int .i64 2, .int .i64 n, .string key, .int .u64 bts] 60))
  have HSZ : Hid (B ≤ (w.alloc (.cells #[.int .i64 2, .int .i64 n, .string key, .int .u64 bts] 60)).heap.size) := Lib.hid (by simp; omega)
  clear h hs hB hsz
  have HK := Lib.hid hk
  have HM := Lib.hid hmin
  clear hk hmin
  go_enter Try.func23, Try.ntmps23
  go_wp2_with fail
  refine (HA0.out.1.find_yes key HKS.out i (by simpa using hi) HK.out).mono ?_
  rintro e w1 ⟨rfl, hl⟩
  have HO1 := Lib.hid hl.1
  have HH1 := Lib.hid hl.2
  have HX1 := Lib.hid (HX0.out.off (B := B) HO1.out)
  obtain ⟨d0, d1, d2, d3⟩ := HX1.out.f
  clear hl
  obtain ⟨lv, hrt⟩ := HA0.out.2
  have HR1 := Lib.hid (hrt.off HO1.out)
  clear hrt
  go_wp2_with fail
  refine (HR1.out.rfind_yes key HSM.out.2.2 i hi HK.out HM.out).mono ?_
  rintro e w2 ⟨rfl, rfl⟩
  go_wp2
  go_ret
  exact ⟨rfl, HO1.out.below HB0.out HSZ.out, rows, HH1.out, _, HR1.out⟩

set_option maxRecDepth 100000 in
set_option maxHeartbeats 2000000 in
theorem does_find_no (h : Both w B b r most rows) (w0 : World) (hB : Below B w0 w) (hsz : B ≤ w.heap.size) (n bts : Int) (key : ByteArray) (hs : key.size ≤ maxLen) (hno : ∀ j, j < rows.length → rkey rows j ≠ key) :
    Calls Try.prog 23 #[.pointer (some ⟨b, 0, none⟩), .pointer (some ⟨r, 0, none⟩), .agg #[.int .i64 2, .int .i64 n, .string key, .int .u64 bts]] w fun e w' => e = .returned (.bool true) ∧ Done B w0 b r most w' := by
  have HSM := Lib.hid h.small
  have HKS := Lib.hid hs
  have HA0 := Lib.hid (h.alloc (.cells #[.int .i64 2, .int .i64 n, .string key, .int .u64 bts] 60))
  have HX0 : Hid (Box (w.alloc (.cells #[.int .i64 2, .int .i64 n, .string key, .int .u64 bts] 60)) w.heap.size 2 n key bts) := Lib.hid (heap_alloc_new w _)
  have HB0 := Lib.hid (hB.alloc hsz (.cells #[.int .i64 2, .int .i64 n, .string key, .int .u64 bts] 60))
  have HSZ : Hid (B ≤ (w.alloc (.cells #[.int .i64 2, .int .i64 n, .string key, .int .u64 bts] 60)).heap.size) := Lib.hid (by simp; omega)
  clear h hs hB hsz
  have HM := Lib.hid hno
  clear hno
  go_enter Try.func23, Try.ntmps23
  go_wp2_with fail
  refine (HA0.out.1.find_no key HKS.out (fun j hj => HM.out j (by simpa using hj))).mono ?_
  rintro e w1 ⟨rfl, hl⟩
  have HO1 := Lib.hid hl.1
  have HH1 := Lib.hid hl.2
  have HX1 := Lib.hid (HX0.out.off (B := B) HO1.out)
  obtain ⟨d0, d1, d2, d3⟩ := HX1.out.f
  clear hl
  obtain ⟨lv, hrt⟩ := HA0.out.2
  have HR1 := Lib.hid (hrt.off HO1.out)
  clear hrt
  go_wp2_with fail
  refine (HR1.out.rfind_no key HSM.out.2.2 HM.out).mono ?_
  rintro e w2 ⟨rfl, rfl⟩
  go_wp2
  go_ret
  exact ⟨rfl, HO1.out.below HB0.out HSZ.out, rows, HH1.out, _, HR1.out⟩

set_option maxRecDepth 100000 in
set_option maxHeartbeats 2000000 in
theorem does_mark_yes (h : Both w B b r most rows) (w0 : World) (hB : Below B w0 w) (hsz : B ≤ w.heap.size) (n bts : Int) (key : ByteArray) (hs : key.size ≤ maxLen) (i : Nat) (hi : i < rows.length) (hn : n = i) :
    Calls Try.prog 23 #[.pointer (some ⟨b, 0, none⟩), .pointer (some ⟨r, 0, none⟩), .agg #[.int .i64 3, .int .i64 n, .string key, .int .u64 bts]] w fun e w' => e = .returned (.bool true) ∧ Done B w0 b r most w' := by
  have HSM := Lib.hid h.small
  have HKS := Lib.hid hs
  have HA0 := Lib.hid (h.alloc (.cells #[.int .i64 3, .int .i64 n, .string key, .int .u64 bts] 60))
  have HX0 : Hid (Box (w.alloc (.cells #[.int .i64 3, .int .i64 n, .string key, .int .u64 bts] 60)) w.heap.size 3 n key bts) := Lib.hid (heap_alloc_new w _)
  have HB0 := Lib.hid (hB.alloc hsz (.cells #[.int .i64 3, .int .i64 n, .string key, .int .u64 bts] 60))
  have HSZ : Hid (B ≤ (w.alloc (.cells #[.int .i64 3, .int .i64 n, .string key, .int .u64 bts] 60)).heap.size) := Lib.hid (by simp; omega)
  clear h hs hB hsz
  subst hn
  go_enter Try.func23, Try.ntmps23
  go_wp2_with fail
  refine (HA0.out.1.mark_yes i (by simpa using hi) bts).mono ?_
  rintro e w1 ⟨rfl, hl⟩
  have HO1 := Lib.hid hl.1
  have HH1 := Lib.hid hl.2
  have HX1 := Lib.hid (HX0.out.off (B := B) HO1.out)
  obtain ⟨d0, d1, d2, d3⟩ := HX1.out.f
  clear hl
  obtain ⟨lv, hrt⟩ := HA0.out.2
  have HR1 := Lib.hid (hrt.off HO1.out)
  clear hrt
  go_wp2_with fail
  refine (HR1.out.rmark_yes i hi HSM.out.2.2 bts).mono ?_
  rintro e w2 ⟨rfl, ho, hr2⟩
  have HO2 := Lib.hid ho
  have HR2 := Lib.hid hr2
  clear ho hr2
  go_wp2
  go_ret
  refine ⟨by simp, HO2.out.below (HO1.out.below HB0.out HSZ.out) (Nat.le_trans HSZ.out HO1.out.size), _, ?_, _, HR2.out⟩
  rw [map_fst_set _ _ hi, map_snd_set _ _ hi]
  exact HH1.out.offR HO2.out

set_option maxRecDepth 100000 in
set_option maxHeartbeats 2000000 in
theorem does_mark_no (h : Both w B b r most rows) (w0 : World) (hB : Below B w0 w) (hsz : B ≤ w.heap.size) (n bts : Int) (key : ByteArray) (hs : key.size ≤ maxLen) (hn : n < 0 ∨ rows.length ≤ n) :
    Calls Try.prog 23 #[.pointer (some ⟨b, 0, none⟩), .pointer (some ⟨r, 0, none⟩), .agg #[.int .i64 3, .int .i64 n, .string key, .int .u64 bts]] w fun e w' => e = .returned (.bool true) ∧ Done B w0 b r most w' := by
  have HSM := Lib.hid h.small
  have HKS := Lib.hid hs
  have HA0 := Lib.hid (h.alloc (.cells #[.int .i64 3, .int .i64 n, .string key, .int .u64 bts] 60))
  have HX0 : Hid (Box (w.alloc (.cells #[.int .i64 3, .int .i64 n, .string key, .int .u64 bts] 60)) w.heap.size 3 n key bts) := Lib.hid (heap_alloc_new w _)
  have HB0 := Lib.hid (hB.alloc hsz (.cells #[.int .i64 3, .int .i64 n, .string key, .int .u64 bts] 60))
  have HSZ : Hid (B ≤ (w.alloc (.cells #[.int .i64 3, .int .i64 n, .string key, .int .u64 bts] 60)).heap.size) := Lib.hid (by simp; omega)
  clear h hs hB hsz
  have HN := Lib.hid hn
  clear hn
  obtain ⟨d0, d1, d2, d3⟩ := HX0.out.f
  obtain ⟨lv, hrt⟩ := HA0.out.2
  have HRT := Lib.hid hrt
  clear hrt d0 d1 d2 d3
  go_enter Try.func23, Try.ntmps23
  go_wp2_with fail
  refine (HA0.out.1.mark_no n bts (by simpa using HN.out)).mono ?_
  rintro e w1 ⟨rfl, rfl⟩
  go_wp2_with fail
  refine (HRT.out.rmark_no n bts HN.out).mono ?_
  rintro e w2 ⟨rfl, rfl⟩
  go_wp2
  go_ret
  exact ⟨rfl, HB0.out, rows, HA0.out⟩

set_option maxRecDepth 100000 in
set_option maxHeartbeats 2000000 in
theorem does_clear_yes (h : Both w B b r most rows) (w0 : World) (hB : Below B w0 w) (hsz : B ≤ w.heap.size) (n bts : Int) (key : ByteArray) (hs : key.size ≤ maxLen) (i : Nat) (hi : i < rows.length) (hn : n = i) :
    Calls Try.prog 23 #[.pointer (some ⟨b, 0, none⟩), .pointer (some ⟨r, 0, none⟩), .agg #[.int .i64 4, .int .i64 n, .string key, .int .u64 bts]] w fun e w' => e = .returned (.bool true) ∧ Done B w0 b r most w' := by
  have HSM := Lib.hid h.small
  have HKS := Lib.hid hs
  have HA0 := Lib.hid (h.alloc (.cells #[.int .i64 4, .int .i64 n, .string key, .int .u64 bts] 60))
  have HX0 : Hid (Box (w.alloc (.cells #[.int .i64 4, .int .i64 n, .string key, .int .u64 bts] 60)) w.heap.size 4 n key bts) := Lib.hid (heap_alloc_new w _)
  have HB0 := Lib.hid (hB.alloc hsz (.cells #[.int .i64 4, .int .i64 n, .string key, .int .u64 bts] 60))
  have HSZ : Hid (B ≤ (w.alloc (.cells #[.int .i64 4, .int .i64 n, .string key, .int .u64 bts] 60)).heap.size) := Lib.hid (by simp; omega)
  clear h hs hB hsz
  subst hn
  go_enter Try.func23, Try.ntmps23
  go_wp2_with fail
  refine (HA0.out.1.clear_yes i (by simpa using hi) bts).mono ?_
  rintro e w1 ⟨rfl, hl⟩
  have HO1 := Lib.hid hl.1
  have HH1 := Lib.hid hl.2
  have HX1 := Lib.hid (HX0.out.off (B := B) HO1.out)
  obtain ⟨d0, d1, d2, d3⟩ := HX1.out.f
  clear hl
  obtain ⟨lv, hrt⟩ := HA0.out.2
  have HR1 := Lib.hid (hrt.off HO1.out)
  clear hrt
  go_wp2_with fail
  refine (HR1.out.rclear_yes i hi HSM.out.2.2 bts).mono ?_
  rintro e w2 ⟨rfl, ho, hr2⟩
  have HO2 := Lib.hid ho
  have HR2 := Lib.hid hr2
  clear ho hr2
  go_wp2
  go_ret
  refine ⟨by simp, HO2.out.below (HO1.out.below HB0.out HSZ.out) (Nat.le_trans HSZ.out HO1.out.size), _, ?_, _, HR2.out⟩
  rw [map_fst_set _ _ hi, map_snd_set _ _ hi]
  exact HH1.out.offR HO2.out

set_option maxRecDepth 100000 in
set_option maxHeartbeats 2000000 in
theorem does_clear_no (h : Both w B b r most rows) (w0 : World) (hB : Below B w0 w) (hsz : B ≤ w.heap.size) (n bts : Int) (key : ByteArray) (hs : key.size ≤ maxLen) (hn : n < 0 ∨ rows.length ≤ n) :
    Calls Try.prog 23 #[.pointer (some ⟨b, 0, none⟩), .pointer (some ⟨r, 0, none⟩), .agg #[.int .i64 4, .int .i64 n, .string key, .int .u64 bts]] w fun e w' => e = .returned (.bool true) ∧ Done B w0 b r most w' := by
  have HSM := Lib.hid h.small
  have HKS := Lib.hid hs
  have HA0 := Lib.hid (h.alloc (.cells #[.int .i64 4, .int .i64 n, .string key, .int .u64 bts] 60))
  have HX0 : Hid (Box (w.alloc (.cells #[.int .i64 4, .int .i64 n, .string key, .int .u64 bts] 60)) w.heap.size 4 n key bts) := Lib.hid (heap_alloc_new w _)
  have HB0 := Lib.hid (hB.alloc hsz (.cells #[.int .i64 4, .int .i64 n, .string key, .int .u64 bts] 60))
  have HSZ : Hid (B ≤ (w.alloc (.cells #[.int .i64 4, .int .i64 n, .string key, .int .u64 bts] 60)).heap.size) := Lib.hid (by simp; omega)
  clear h hs hB hsz
  have HN := Lib.hid hn
  clear hn
  obtain ⟨d0, d1, d2, d3⟩ := HX0.out.f
  obtain ⟨lv, hrt⟩ := HA0.out.2
  have HRT := Lib.hid hrt
  clear hrt d0 d1 d2 d3
  go_enter Try.func23, Try.ntmps23
  go_wp2_with fail
  refine (HA0.out.1.clear_no n bts (by simpa using HN.out)).mono ?_
  rintro e w1 ⟨rfl, rfl⟩
  go_wp2_with fail
  refine (HRT.out.rclear_no n bts HN.out).mono ?_
  rintro e w2 ⟨rfl, rfl⟩
  go_wp2
  go_ret
  exact ⟨rfl, HB0.out, rows, HA0.out⟩

set_option maxRecDepth 100000 in
set_option maxHeartbeats 2000000 in
theorem does_key_yes (h : Both w B b r most rows) (w0 : World) (hB : Below B w0 w) (hsz : B ≤ w.heap.size) (n bts : Int) (key : ByteArray) (hs : key.size ≤ maxLen) (i : Nat) (hi : i < rows.length) (hn : n = i) :
    Calls Try.prog 23 #[.pointer (some ⟨b, 0, none⟩), .pointer (some ⟨r, 0, none⟩), .agg #[.int .i64 5, .int .i64 n, .string key, .int .u64 bts]] w fun e w' => e = .returned (.bool true) ∧ Done B w0 b r most w' := by
  have HSM := Lib.hid h.small
  have HKS := Lib.hid hs
  have HA0 := Lib.hid (h.alloc (.cells #[.int .i64 5, .int .i64 n, .string key, .int .u64 bts] 60))
  have HX0 : Hid (Box (w.alloc (.cells #[.int .i64 5, .int .i64 n, .string key, .int .u64 bts] 60)) w.heap.size 5 n key bts) := Lib.hid (heap_alloc_new w _)
  have HB0 := Lib.hid (hB.alloc hsz (.cells #[.int .i64 5, .int .i64 n, .string key, .int .u64 bts] 60))
  have HSZ : Hid (B ≤ (w.alloc (.cells #[.int .i64 5, .int .i64 n, .string key, .int .u64 bts] 60)).heap.size) := Lib.hid (by simp; omega)
  clear h hs hB hsz
  subst hn
  obtain ⟨lv, hrt⟩ := HA0.out.2
  have HRT := Lib.hid hrt
  have HK1 := Lib.hid (show (rows.map Prod.fst).getD i ByteArray.empty = rkey rows i from rfl)
  have HK2 := Lib.hid (show (rows.map Prod.snd).getD i 0 = rbits rows i from rfl)
  clear hrt
  go_enter Try.func23, Try.ntmps23
  go_wp2_with fail
  refine (HA0.out.1.key_yes i (by simpa using hi) _ HK1).mono ?_
  rintro e w1 ⟨rfl, rfl⟩
  go_wp2_with fail
  refine (HRT.out.rkey_yes i hi HSM.out.2.2).mono ?_
  rintro e w2 ⟨rfl, rfl⟩
  go_wp2_with fail
  refine (HA0.out.1.bits_yes i (by simpa using hi) _ HK2).mono ?_
  rintro e w2 ⟨rfl, rfl⟩
  go_wp2_with fail
  refine (HRT.out.rbits_yes i hi HSM.out.2.2).mono ?_
  rintro e w2 ⟨rfl, rfl⟩
  go_wp2
  go_ret
  exact ⟨rfl, HB0.out, rows, HA0.out⟩

set_option maxRecDepth 100000 in
set_option maxHeartbeats 2000000 in
theorem does_key_no (h : Both w B b r most rows) (w0 : World) (hB : Below B w0 w) (hsz : B ≤ w.heap.size) (n bts : Int) (key : ByteArray) (hs : key.size ≤ maxLen) (hn : n < 0 ∨ rows.length ≤ n) :
    Calls Try.prog 23 #[.pointer (some ⟨b, 0, none⟩), .pointer (some ⟨r, 0, none⟩), .agg #[.int .i64 5, .int .i64 n, .string key, .int .u64 bts]] w fun e w' => e = .returned (.bool true) ∧ Done B w0 b r most w' := by
  have HSM := Lib.hid h.small
  have HKS := Lib.hid hs
  have HA0 := Lib.hid (h.alloc (.cells #[.int .i64 5, .int .i64 n, .string key, .int .u64 bts] 60))
  have HX0 : Hid (Box (w.alloc (.cells #[.int .i64 5, .int .i64 n, .string key, .int .u64 bts] 60)) w.heap.size 5 n key bts) := Lib.hid (heap_alloc_new w _)
  have HB0 := Lib.hid (hB.alloc hsz (.cells #[.int .i64 5, .int .i64 n, .string key, .int .u64 bts] 60))
  have HSZ : Hid (B ≤ (w.alloc (.cells #[.int .i64 5, .int .i64 n, .string key, .int .u64 bts] 60)).heap.size) := Lib.hid (by simp; omega)
  clear h hs hB hsz
  have HN := Lib.hid hn
  clear hn
  obtain ⟨lv, hrt⟩ := HA0.out.2
  have HRT := Lib.hid hrt
  clear hrt
  go_enter Try.func23, Try.ntmps23
  go_wp2_with fail
  refine (HA0.out.1.key_no n (by simpa using HN.out)).mono ?_
  rintro e w1 ⟨rfl, rfl⟩
  go_wp2_with fail
  refine (HRT.out.rkey_no n HN.out).mono ?_
  rintro e w2 ⟨rfl, rfl⟩
  go_wp2_with fail
  refine (HA0.out.1.bits_no n (by simpa using HN.out)).mono ?_
  rintro e w2 ⟨rfl, rfl⟩
  go_wp2_with fail
  refine (HRT.out.rbits_no n HN.out).mono ?_
  rintro e w2 ⟨rfl, rfl⟩
  go_wp2
  go_ret
  exact ⟨rfl, HB0.out, rows, HA0.out⟩

set_option maxRecDepth 100000 in
set_option maxHeartbeats 2000000 in
theorem does_else (h : Both w B b r most rows) (w0 : World) (hB : Below B w0 w) (hsz : B ≤ w.heap.size) (kind n bts : Int) (key : ByteArray) (hs : key.size ≤ maxLen) (hk : kind < 1 ∨ 5 < kind) :
    Calls Try.prog 23 #[.pointer (some ⟨b, 0, none⟩), .pointer (some ⟨r, 0, none⟩), .agg #[.int .i64 kind, .int .i64 n, .string key, .int .u64 bts]] w fun e w' => e = .returned (.bool true) ∧ Done B w0 b r most w' := by
  have HSM := Lib.hid h.small
  have HKS := Lib.hid hs
  have HA0 := Lib.hid (h.alloc (.cells #[.int .i64 kind, .int .i64 n, .string key, .int .u64 bts] 60))
  have HX0 : Hid (Box (w.alloc (.cells #[.int .i64 kind, .int .i64 n, .string key, .int .u64 bts] 60)) w.heap.size kind n key bts) := Lib.hid (heap_alloc_new w _)
  have HB0 := Lib.hid (hB.alloc hsz (.cells #[.int .i64 kind, .int .i64 n, .string key, .int .u64 bts] 60))
  have HSZ : Hid (B ≤ (w.alloc (.cells #[.int .i64 kind, .int .i64 n, .string key, .int .u64 bts] 60)).heap.size) := Lib.hid (by simp; omega)
  clear h hs hB hsz
  rcases hk with hk | hk
  all_goals
    go_enter Try.func23, Try.ntmps23
    go_wp2
    go_ret
    exact ⟨rfl, HB0.out, rows, HA0.out⟩

theorem does_any (h : Both w B b r most rows) (w0 : World) (hB : Below B w0 w) (hsz : B ≤ w.heap.size) (kind n bts : Int) (key : ByteArray) (hs : key.size ≤ maxLen) :
    Calls Try.prog 23 #[.pointer (some ⟨b, 0, none⟩), .pointer (some ⟨r, 0, none⟩), .agg #[.int .i64 kind, .int .i64 n, .string key, .int .u64 bts]] w fun e w' => e = .returned (.bool true) ∧ Done B w0 b r most w' := by
  have hn : (∃ i : Nat, i < rows.length ∧ n = i) ∨ (n < 0 ∨ (rows.length : Int) ≤ n) := by
    by_cases h1 : 0 ≤ n ∧ n < rows.length
    · exact .inl ⟨n.toNat, by omega, by omega⟩
    · exact .inr (by omega)
  by_cases hk : kind < 1 ∨ 5 < kind
  · exact does_else h w0 hB hsz kind n bts key hs hk
  have hk2 : kind = 1 ∨ kind = 2 ∨ kind = 3 ∨ kind = 4 ∨ kind = 5 := by omega
  rcases hk2 with rfl | rfl | rfl | rfl | rfl
  · rcases h.least key with ⟨i, hi, hki, hm⟩ | hno
    · exact does_put_yes h w0 hB hsz n bts key hs i hi hki hm
    · by_cases hf : (rows.length : Int) = most
      · exact does_put_full h w0 hB hsz n bts key hs hno hf
      · exact does_put_new h w0 hB hsz n bts key hs hno (by have := h.small; omega)
  · rcases h.least key with ⟨i, hi, hki, hm⟩ | hno
    · exact does_find_yes h w0 hB hsz n bts key hs i hi hki hm
    · exact does_find_no h w0 hB hsz n bts key hs hno
  · rcases hn with ⟨i, hi, hn⟩ | hn
    · exact does_mark_yes h w0 hB hsz n bts key hs i hi hn
    · exact does_mark_no h w0 hB hsz n bts key hs hn
  · rcases hn with ⟨i, hi, hn⟩ | hn
    · exact does_clear_yes h w0 hB hsz n bts key hs i hi hn
    · exact does_clear_no h w0 hB hsz n bts key hs hn
  · rcases hn with ⟨i, hi, hn⟩ | hn
    · exact does_key_yes h w0 hB hsz n bts key hs i hi hn
    · exact does_key_no h w0 hB hsz n bts key hs hn

end
end Go.Proofs.Ytbjieimdllapgaa
