/- The token with which a text begins, as data; and the contract of read, whole. -/
import Derived.Test.YtmkfcoeefopmiaaRead
import Derived.Test.YtmkfcoeefopmiaaRead2
namespace Go.Proofs.Ytmkfcoeefopmiaa
open Go.ChangeShapes Go.WideShapes Go.ChangeAt Go.RowKit

structure TR where
  er : Nat
  kind : Nat
  text : ByteArray
  num : Nat
  size : Nat
def badT (e : Nat) : TR := ⟨e, 0, ⟨#[]⟩, 0, 0⟩
def byteT (v : ByteArray) (x : Option (Nat × Nat)) : TR := match x with
  | none => badT 3
  | some (x, n) => ⟨0, 2, v.extract 0 n, x, n⟩
def textT (v : ByteArray) (x : Option Nat) : TR := match x with
  | none => badT 3
  | some k => if 201 < k then badT 5 else ⟨0, 3, v.extract 1 k, 0, k + 1⟩
def nameT (v : ByteArray) (n : Nat) : TR := if n ≤ 32 then ⟨0, 1, v.extract 0 n, 0, n⟩ else badT 5
def numT (v : ByteArray) (n c : Nat) : TR := if c ≤ 2147483647 then ⟨0, 2, v.extract 0 n, c, n⟩ else badT 4
/-- The token with which a text begins, or what is wrong. -/
def tokR (v : ByteArray) : TR :=
  if isL (byt v 0) = true then nameT v (run isLD v.data.toList)
  else if isD (byt v 0) = true then numT v (run isD v.data.toList) (cap 2147483648 (v.data.toList.take (run isD v.data.toList)) 0)
  else if byt v 0 = 39 then byteT v (byteB v)
  else if byt v 0 = 34 then textT v (quotAt v 1)
  else if 1 < v.size ∧ long2 (byt v 0) (byt v 1) = true then ⟨0, 4, v.extract 0 2, 0, 2⟩
  else if short1 (byt v 0) = true then ⟨0, 4, v.extract 0 1, 0, 1⟩ else badT 2
def sixT (r : TR) (a l : Int) : Value := Six r.kind a l r.text r.num r.size r.er

theorem read_any (v : ByteArray) (w : World) (h1 : 1 ≤ v.size) (hs : v.size ≤ 65535) (m : Int) (hm : w.cell? ⟨0, 0, none⟩ = some (.int .i64 m)) :
    ReadC v w (sixT (tokR v) 0 0) := by
  unfold tokR
  by_cases hl : isL (byt v 0) = true
  · rw [if_pos hl]
    have h0 : isLD (byt v 0) = true := by unfold isLD; rw [hl]; rfl
    refine read_name v w h1 _ _ _ _ _ _ _ (fun w => ?_) hl
    refine (name_any v w h1 hs h0 _ (Lib.hid rfl)).mono fun e w' ⟨he, hb⟩ => ⟨?_, hb⟩
    rw [he]
    unfold nameT
    split <;> rfl
  rw [if_neg hl]
  have hl' : isL (byt v 0) = false := by simpa using hl
  by_cases hd : isD (byt v 0) = true
  · rw [if_pos hd]
    refine read_num v w h1 _ _ _ _ _ _ _ (fun w => ?_) hl' hd
    refine (num_any v w hs _ (Lib.hid rfl)).mono fun e w' ⟨he, hb⟩ => ⟨?_, hb⟩
    rw [he]
    unfold numT
    split <;> rfl
  rw [if_neg hd]
  have hd' : isD (byt v 0) = false := by simpa using hd
  by_cases x1 : byt v 0 = 39
  · rw [if_pos x1]
    refine read_byte v w h1 _ _ _ _ _ _ _ (fun w => ?_) hl' hd' x1
    refine (byte_any v w hs).mono fun e w' ⟨he, hb⟩ => ⟨?_, hb⟩
    rw [he]
    cases byteB v with
    | none => rfl
    | some p => rfl
  rw [if_neg x1]
  by_cases x2 : byt v 0 = 34
  · rw [if_pos x2]
    refine read_text v w h1 _ _ _ _ _ _ _ (fun w => ?_) hl' hd' x2
    refine (text_any v w h1 hs).mono fun e w' ⟨he, hb⟩ => ⟨?_, hb⟩
    rw [he]
    cases quotAt v 1 with
    | none => rfl
    | some p =>
      simp only [textR, textT]
      split
      · rfl
      · simp [Six, Tok]
  rw [if_neg x2]
  by_cases h2 : 1 < v.size
  · cases hk : long2 (byt v 0) (byt v 1) with
    | true => rw [if_pos ⟨h2, rfl⟩]; exact read_long v w h1 hl' hd' x1 x2 m hm h2 hk
    | false =>
      rw [if_neg (by simp)]
      cases hsh : short1 (byt v 0) with
      | true => rw [if_pos rfl]; exact read_short_two v w h1 hl' hd' x1 x2 m hm hsh h2 hk
      | false => rw [if_neg (by simp)]; exact read_bad_two v w h1 hl' hd' x1 x2 m hm hsh h2 hk
  · rw [if_neg (by omega)]
    cases hsh : short1 (byt v 0) with
    | true => rw [if_pos rfl]; exact read_short_one v w h1 hl' hd' x1 x2 m hm hsh h2
    | false => rw [if_neg (by simp)]; exact read_bad_one v w h1 hl' hd' x1 x2 m hm hsh h2
end Go.Proofs.Ytmkfcoeefopmiaa
