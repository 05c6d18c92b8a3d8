/- The law of a condition that does not hold: what Macros does with the two rows. -/
import Derived.Test.YtojneaffoekpnaaSkips
import Derived.Test.YtojneaffoekpnaaMac
import Derived.Test.YtojneaffoekpnaaAlike
import Derived.Test.YtojneaffoekpnaaAwake
import Derived.Test.YtojneaffoekpnaaLaw
namespace Go.Proofs.Ytojneaffoekpnaa
open Go.ChangeShapes Go.WideShapes Go.ChangeAt Go.RowKit
set_option linter.unusedVariables false
set_option linter.unusedSimpArgs false

def tokI : TK := ⟨1, 0, 1, ifB, 0⟩
def tokN : TK := ⟨2, 0, 1, ⟨#[48]⟩, 0⟩
def tokH : TK := ⟨4, 0, 3, ⟨#[35]⟩, 0⟩
def tokE : TK := ⟨1, 0, 3, elseB, 0⟩
def tokP : TK := ⟨4, 0, 5, ⟨#[35]⟩, 0⟩
def tokF : TK := ⟨1, 0, 5, endifB, 0⟩
/-- Tokens that may be skipped, or stand alone. -/
def okK (t : TK) : Prop := isMk t ⟨#[35]⟩ = false ∧ t.kind ≠ 0

theorem right_snoc {X : List TK} {t : TK} (hX : ∀ k ∈ X, k.kind ≠ 0) (ht : t.kind = 0) : Right (X ++ [t]) := by
  refine ⟨by simp, fun i hi => ?_⟩
  by_cases h : i < X.length
  · rw [List.getElem_append_left h]
    have := hX _ (List.getElem_mem h)
    have hl : (X ++ [t]).length = X.length + 1 := by simp
    exact ⟨fun h1 => absurd h1 this, fun h1 => by omega⟩
  · have hl : (X ++ [t]).length = X.length + 1 := by simp
    obtain rfl : i = X.length := by omega
    have : (X ++ [t])[X.length] = t := by rw [List.getElem_append_right (by omega)]; simp
    rw [this]
    exact ⟨fun _ => by omega, fun _ => ht⟩

/-- The whole, with what is skipped, and what stands behind the else. -/
def preOf (sk : List TK) : List TK := [tokS, tokI, tokN] ++ sk.map (lined 2) ++ [tokH, tokE]
def tailOf (ts : List TK) : List TK := ts.flatMap fun t => if t.kind = 0 then [tokP, tokF, lined 4 t] else [lined 4 t]
theorem tailOf_take {ts : List TK} {t : TK} {k : Nat} (hk : k < ts.length) (ht : ts[k] = t) : tailOf (ts.take (k + 1)) = tailOf (ts.take k) ++ (if t.kind = 0 then [tokP, tokF, lined 4 t] else [lined 4 t]) := by
  rw [List.take_succ_eq_append_getElem hk, ht]
  simp [tailOf]
theorem tailOf_le (ts : List TK) : (tailOf ts).length ≤ ts.length * 3 := by
  induction ts with
  | nil => simp [tailOf]
  | cons t r ih =>
    have : (tailOf (t :: r)).length = (if t.kind = 0 then [tokP, tokF, lined 4 t] else [lined 4 t]).length + (tailOf r).length := by simp [tailOf]
    rw [this, List.length_cons]
    split
    · simp; omega
    · simp; omega
theorem tailOf_plain {r : List TK} (h : ∀ k ∈ r, k.kind ≠ 0) : tailOf r = r.map (lined 4) := by
  induction r with
  | nil => rfl
  | cons t r ih =>
    have e : tailOf (t :: r) = (if t.kind = 0 then [tokP, tokF, lined 4 t] else [lined 4 t]) ++ tailOf r := by simp [tailOf]
    rw [e, if_neg (h t (by simp)), ih fun k hk => h k (by simp [hk])]
    rfl

theorem split_right {ts : List TK} (hr : Right ts) : ∃ r e, ts = r ++ [e] ∧ e.kind = 0 ∧ ∀ k ∈ r, k.kind ≠ 0 := by
  have hne : ts ≠ [] := fun h => by have := hr.1; rw [h] at this; simp at this
  obtain ⟨r, e, hts⟩ : ∃ r e, ts = r ++ [e] := ⟨ts.dropLast, ts.getLast hne, (List.dropLast_concat_getLast hne).symm⟩
  refine ⟨r, e, hts, ?_, fun k hk => ?_⟩
  · have h := (hr.2 r.length (by rw [hts]; simp)).2 (by rw [hts]; simp)
    have e1 : ts[r.length]'(by rw [hts]; simp) = e := by subst hts; simp
    rwa [e1] at h
  · obtain ⟨j, hj, rfl⟩ := List.getElem_of_mem hk
    have hl : ts.length = r.length + 1 := by rw [hts]; simp
    have h := hr.2 j (by omega)
    have e1 : ts[j]'(by omega) = r[j] := by subst hts; rw [List.getElem_append_left hj]
    rw [e1] at h
    intro h0
    have := h.1 h0
    omega

theorem skips_law (g cap : Nat) (sk ts : List TK) (w : World) (all : List TK) (hall : all = preOf sk ++ tailOf ts) (ht : Toks w g 0 all) (hr : Right ts) (hsk : ∀ j (h : j < sk.length), okK sk[j]) (hmk : ∀ j (h : j < ts.length), isMk ts[j] ⟨#[35]⟩ = false) (hs2 : sk.length ≤ 2000) (ht2 : ts.length ≤ 2000)
    (hcap : all.length ≤ cap) :
    Calls Try.prog 7 #[.slice (some ⟨g, 0, none⟩) all.length cap] w fun e w' => ∃ v, e = .returned (.tuple #[v, .int .i64 0, .int .i64 0]) ∧ Row w w' v (ts.map (lined 4)) := by
  obtain ⟨r, e, hts, hek, hrk⟩ := split_right hr
  have hskm : ∀ k ∈ sk, okK k := fun k hk => by
    obtain ⟨j, hj, rfl⟩ := List.getElem_of_mem hk
    exact hsk j hj
  have htm : ∀ k ∈ ts, isMk k ⟨#[35]⟩ = false := fun k hk => by
    obtain ⟨j, hj, rfl⟩ := List.getElem_of_mem hk
    exact hmk j hj
  have hform : all = (tokS :: tokI :: tokN :: sk.map (lined 2)) ++ (tokH :: tokE :: (r.map (lined 4) ++ [tokP, tokF, lined 4 e])) := by
    have h1 : tailOf ts = r.map (lined 4) ++ [tokP, tokF, lined 4 e] := by
      rw [← tailOf_plain hrk, hts]
      simp [tailOf, hek]
    rw [hall, h1]
    simp [preOf]
  have hP := parts_of tokS tokI tokN tokH tokE tokP tokF (lined 4 e) (sk.map (lined 2)) (r.map (lined 4)) (3 + (sk.map (lined 2)).length) (3 + (sk.map (lined 2)).length + 2 + (r.map (lined 4)).length) rfl rfl
  rw [← hform] at hP
  have hrl : r.length ≤ 2000 := by rw [hts] at ht2; simp at ht2; omega
  have hlen : all.length = 3 + sk.length + 2 + r.length + 3 := by have := hP.len; simpa using this
  have hR : Right all := by
    have h2 : all = ((tokS :: tokI :: tokN :: sk.map (lined 2)) ++ (tokH :: tokE :: (r.map (lined 4) ++ [tokP, tokF]))) ++ [lined 4 e] := by rw [hform]; simp
    rw [h2]
    refine right_snoc (fun k hk => ?_) hek
    simp only [List.mem_append, List.mem_cons, List.mem_map, List.not_mem_nil, or_false] at hk
    rcases hk with (rfl | rfl | rfl | ⟨x, hx, rfl⟩) | (rfl | rfl | ⟨x, hx, rfl⟩ | rfl | rfl)
    · decide
    · decide
    · decide
    · exact (hskm x hx).2
    · decide
    · decide
    · exact hrk x hx
    · decide
    · decide
  have hmain := skips_any g 0 cap tokS tokI tokN tokH tokE tokP tokF (lined 4 e) (sk.map (lined 2)) (r.map (lined 4)) _ _ all hP rfl rfl w ht hR hcap (by omega) (by decide) rfl rfl rfl rfl (by decide) rfl rfl (by decide) rfl rfl
    (fun k hk => by obtain ⟨x, hx, rfl⟩ := List.mem_map.1 hk; exact (hskm x hx).1)
    (fun k hk => by obtain ⟨x, hx, rfl⟩ := List.mem_map.1 hk; exact htm x (by rw [hts]; simp [hx]))
    ⟨rfl, rfl, rfl⟩ (fun k hk => by obtain ⟨x, hx, rfl⟩ := List.mem_map.1 hk; rfl) ⟨rfl, rfl⟩ (fun k hk => by obtain ⟨x, hx, rfl⟩ := List.mem_map.1 hk; rfl) ⟨rfl, rfl⟩
  refine hmain.mono ?_
  rintro e' w' ⟨v, rfl, hrow⟩
  exact ⟨v, rfl, by rw [hts]; simpa using hrow⟩
theorem alone_law (g cap : Nat) (ts : List TK) (w : World) (al : List TK) (hal : al = ts.map (lined 4)) (ht : Toks w g 0 al) (hr : Right ts) (hmk : ∀ j (h : j < ts.length), isMk ts[j] ⟨#[35]⟩ = false) (ht2 : ts.length ≤ 2000) (hcap : al.length ≤ cap) :
    Calls Try.prog 7 #[.slice (some ⟨g, 0, none⟩) al.length cap] w fun e w' => ∃ v, e = .returned (.tuple #[v, .int .i64 0, .int .i64 0]) ∧ Row w w' v (ts.map (lined 4)) := by
  obtain ⟨r, e, hts, hek, hrk⟩ := split_right hr
  subst hal
  have hR : Right (ts.map (lined 4)) := by
    have h2 : ts.map (lined 4) = r.map (lined 4) ++ [lined 4 e] := by rw [hts]; simp
    rw [h2]
    exact right_snoc (fun k hk => by obtain ⟨x, hx, rfl⟩ := List.mem_map.1 hk; exact hrk x hx) hek
  exact macros_any g 0 cap _ w ht hR (by simp; omega) hcap (fun i hi => by rw [List.getElem_map]; exact hmk i (by simpa using hi))
end Go.Proofs.Ytojneaffoekpnaa
