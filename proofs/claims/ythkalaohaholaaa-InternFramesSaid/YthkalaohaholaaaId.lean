/-
  The keys of intern's maps.
-/
import Derived.Test.YthkalaohaholaaaIc
import Derived.Test.YthkalaohaholaaaWb
set_option linter.unusedVariables false
set_option linter.unusedSimpArgs false
namespace Go.Proofs.Ythkalaohaholaaa
open Go.RowKit Go.Maps

section
variable {P : Program} {t ta ti ts : TypeId} {f0 f1 : Field}
theorem keyLits_int (hi : P.underlying ti = some (.int .i64)) (d : Nat) {n : Int} (hn : i64in n) : P.keyLits (d + 1) ti [.int .i64 n] = some [.int .i64 n] := by
  unfold Program.keyLits
  simp [hi, i64in_wf hn]
theorem keyLits_string (hs : P.underlying ts = some .string) (d : Nat) {s : ByteArray} (h : s.size ≤ maxLen) : P.keyLits (d + 1) ts [.string s] = some [.string s.data.toList] := by
  unfold Program.keyLits
  simp [hs, h]
theorem keyLits_two (ha : P.underlying ta = some (.array 2 ti)) (hi : P.underlying ti = some (.int .i64)) (c2 : P.cellsOf ta = 2) (c1 : P.cellsOf ti = 1) (d : Nat) {a b : Int} (h1 : i64in a) (h2 : i64in b) : P.keyLits (d + 2) ta [.int .i64 a, .int .i64 b] = some [.int .i64 a, .int .i64 b] := by
  unfold Program.keyLits
  simp [ha, c2, c1, List.range, List.range.loop, keyLits_int hi d h1, keyLits_int hi d h2]
theorem keyLits_key (ht : P.underlying t = some (.struct #[f0, f1])) (ha : P.underlying f0.type = some (.array 2 ti)) (hi : P.underlying ti = some (.int .i64)) (hs : P.underlying f1.type = some .string) (c3 : P.cellsOf t = 3) (c2 : P.cellsOf f0.type = 2) (c1 : P.cellsOf ti = 1) (cs : P.cellsOf f1.type = 1)
    (n0 : (f0.name != "_") = true) (n1 : (f1.name != "_") = true) (o0 : f0.offset = 0) (o1 : f1.offset = 2) (d : Nat) {a b : Int} (h1 : i64in a) (h2 : i64in b) {s : ByteArray} (h : s.size ≤ maxLen) :
    P.keyLits (d + 3) t [.int .i64 a, .int .i64 b, .string s] = some [.int .i64 a, .int .i64 b, .string s.data.toList] := by
  unfold Program.keyLits
  simp [ht, c3, n0, n1, o0, o1, c2, cs, keyLits_two ha hi c2 c1 d h1 h2, keyLits_string hs (d + 1) h]
theorem keyOf_key (hk : P.keyType t = true) (hz : ∃ d, P.types.size + 1 = d + 3) (ht : P.underlying t = some (.struct #[f0, f1])) (ha : P.underlying f0.type = some (.array 2 ti)) (hi : P.underlying ti = some (.int .i64)) (hs : P.underlying f1.type = some .string) (c3 : P.cellsOf t = 3) (c2 : P.cellsOf f0.type = 2) (c1 : P.cellsOf ti = 1) (cs : P.cellsOf f1.type = 1)
    (n0 : (f0.name != "_") = true) (n1 : (f1.name != "_") = true) (o0 : f0.offset = 0) (o1 : f1.offset = 2) {a b : Int} (h1 : i64in a) (h2 : i64in b) {s : ByteArray} (h : s.size ≤ maxLen) :
    ∃ l, keyOf P t (.agg #[.int .i64 a, .int .i64 b, .string s]) = some l := by
  obtain ⟨d, hd⟩ := hz
  unfold keyOf
  have hf : (Value.agg #[.int .i64 a, .int .i64 b, .string s]).formed P t = true := by unfold Value.formed; simp [ht, c3]
  have hl : P.keyLits (P.types.size + 1) t (Value.agg #[.int .i64 a, .int .i64 b, .string s]).cells.toList = some [.int .i64 a, .int .i64 b, .string s.data.toList] := by
    rw [hd]; exact keyLits_key ht ha hi hs c3 c2 c1 cs n0 n1 o0 o1 d h1 h2 h
  simp only [ht, hk, hf, Bool.and_self, if_true, hl, Option.map_some]
  exact ⟨_, rfl⟩
end
namespace Tb
/-- What a stack's frames behind the first one are told by. -/
def tail (l : List (Int × Int)) : List Int := (l.drop 1).flatMap fun f => [f.1, f.2]
def rest (l : List (Int × Int)) : ByteArray := ⟨(Wi.cat (tail l)).toArray⟩
/-- A stack that its key tells apart. -/
def keyed (l : List (Int × Int)) : Prop := 1 ≤ l.length ∧ l.length ≤ 100 ∧ ∀ f ∈ l, Wi.ok f.1 ∧ Wi.ok f.2
theorem cat_inj : ∀ a b : List Int, (∀ x ∈ a, Wi.ok x) → (∀ x ∈ b, Wi.ok x) → Wi.cat a = Wi.cat b → a = b
  | [], [], _, _, _ => rfl
  | [], y :: b, _, hb, h => by
    have := Va.put_len_pos y.toNat
    have h2 := congrArg List.length h
    rw [show Wi.cat [] = [] from rfl, show Wi.cat (y :: b) = Va.put y.toNat ++ Wi.cat b by simp [Wi.cat], List.length_nil, List.length_append] at h2
    omega
  | x :: a, [], _, _, h => by
    have := Va.put_len_pos x.toNat
    have h2 := congrArg List.length h
    rw [show Wi.cat [] = [] from rfl, show Wi.cat (x :: a) = Va.put x.toNat ++ Wi.cat a by simp [Wi.cat], List.length_nil, List.length_append] at h2
    omega
  | x :: a, y :: b, ha, hb, h => by
    have hx : Wi.ok x := ha x (by simp)
    have hy : Wi.ok y := hb y (by simp)
    have h1 : Va.put x.toNat ++ Wi.cat a = Va.put y.toNat ++ Wi.cat b := by simpa [Wi.cat] using h
    unfold Wi.ok at hx hy
    have he : x.toNat = y.toNat := Va.put_inj (by unfold Va.most; omega) (by unfold Va.most; omega) h1
    have hxy : x = y := by omega
    subst hxy
    have h3 := List.append_cancel_left h1
    rw [cat_inj a b (fun z hz => ha z (by simp [hz])) (fun z hz => hb z (by simp [hz])) h3]
theorem flat_inj : ∀ a b : List (Int × Int), (a.flatMap fun f => [f.1, f.2]) = (b.flatMap fun f => [f.1, f.2]) → a = b
  | [], [], _ => rfl
  | [], y :: b, h => by simp at h
  | x :: a, [], h => by simp at h
  | x :: a, y :: b, h => by
    simp only [List.flatMap_cons, List.cons_append, List.nil_append, List.cons.injEq] at h
    rw [flat_inj a b h.2.2, Prod.ext h.1 h.2.1]
theorem rest_inj {a b : List (Int × Int)} (ha : keyed a) (hb : keyed b) (h1 : a.head? = b.head?) (h2 : rest a = rest b) : a = b := by
  obtain ⟨a1, _, a2⟩ := ha
  obtain ⟨b1, _, b2⟩ := hb
  have h3 : Wi.cat (tail a) = Wi.cat (tail b) := by
    have := congrArg (fun s : ByteArray => s.data.toList) h2
    simpa [rest] using this
  have oks : ∀ l : List (Int × Int), (∀ f ∈ l, Wi.ok f.1 ∧ Wi.ok f.2) → ∀ x ∈ tail l, Wi.ok x := fun l hl x hx => by
    obtain ⟨f, hf, hx⟩ := List.mem_flatMap.1 hx
    have := hl f (List.mem_of_mem_drop hf)
    simp only [List.mem_cons, List.not_mem_nil, or_false] at hx
    rcases hx with rfl | rfl
    · exact this.1
    · exact this.2
  have h4 := flat_inj _ _ (cat_inj _ _ (oks a a2) (oks b b2) h3)
  match a, b, a1, b1, h1, h4 with
  | x :: a, y :: b, _, _, h1, h4 =>
    simp at h1 h4
    rw [h1, h4]
theorem tail_len (l : List (Int × Int)) : (tail l).length = (l.length - 1) * 2 := by
  have h : ∀ m : List (Int × Int), (m.flatMap fun f => [f.1, f.2]).length = m.length * 2 := fun m => by
    induction m with
    | nil => rfl
    | cons f m ih => rw [List.flatMap_cons, List.length_append, ih, List.length_cons]; simp; omega
  unfold tail
  rw [h, List.length_drop]
theorem rest_size {l : List (Int × Int)} (h : keyed l) : (rest l).size ≤ 1800 := by
  show (Wi.cat (tail l)).toArray.size ≤ 1800
  have h1 := Wi.cat_len (tail l) (fun x hx => by
    obtain ⟨f, hf, hx⟩ := List.mem_flatMap.1 hx
    have := h.2.2 f (List.mem_of_mem_drop hf)
    simp only [List.mem_cons, List.not_mem_nil, or_false] at hx
    rcases hx with rfl | rfl
    · exact this.1
    · exact this.2)
  rw [tail_len] at h1
  have := h.2.1
  simp
  omega
theorem keyed_of {m : Nat} {l : List (Int × Int)} (h : mayK m l = true) (hm : m ≤ 100000) : keyed l := by
  obtain ⟨h1, h2, h3⟩ := mayK_iff.1 h
  exact ⟨h1, h2, fun f hf => by have := h3 f hf; unfold Wi.ok; omega⟩
def keyV (l : List (Int × Int)) : Value := .agg #[.int .i64 (l.headD (0, 0)).1, .int .i64 (l.headD (0, 0)).2, .string (rest l)]
end Tb
theorem keyed_stack : Keyed Try.prog 62 := Keyed.of_law (deep_law_laid (m := 3) (by kernel_rfl) (by decide) (by decide) (by kernel_rfl) (by kernel_rfl))
def stackKind : KeyKind Try.prog 62 (List (Int × Int)) where
  keyed := keyed_stack
  val := Tb.keyV
  ok := Tb.keyed
  key l h := by
    have h2 := Tb.rest_size h
    have h0 : ∃ f ∈ l, l.headD (0, 0) = f := by
      match l, h.1 with
      | x :: l, _ => exact ⟨x, by simp, rfl⟩
    obtain ⟨f, hf, he⟩ := h0
    have h3 := h.2.2 f hf
    unfold Wi.ok at h3
    unfold Tb.keyV
    rw [he]
    exact keyOf_key (by kernel_rfl) ⟨_, rfl⟩ Try.underlying62 Try.underlying54 Try.underlying3 Try.underlying9 (by kernel_rfl) (by kernel_rfl) (by kernel_rfl) (by kernel_rfl) (by kernel_rfl) (by kernel_rfl) rfl rfl (by unfold i64in; omega) (by unfold i64in; omega) (by unfold maxLen; omega)
  inj x y hx hy h := by
    unfold Tb.keyV at h
    simp only [Value.agg.injEq, Array.mk.injEq, List.cons.injEq, Value.int.injEq, Value.string.injEq, true_and, and_true] at h
    refine Tb.rest_inj hx hy ?_ h.2.2
    match x, y, hx.1, hy.1, h with
    | a :: x, b :: y, _, _, h => simp only [List.headD_cons] at h; simp only [List.head?_cons, Option.some.injEq]; exact Prod.ext h.1 h.2.1
def textKind : KeyKind Try.prog 9 ByteArray where
  keyed := string_keyed Try.underlying9
  val s := .string s
  ok s := s.size ≤ maxLen
  key s h := by
    refine ⟨.string s.data.toList, ?_⟩
    simp [keyOf, Try.underlying9, mapKey, h]
  inj x y _ _ h := by injection h

end Go.Proofs.Ythkalaohaholaaa
