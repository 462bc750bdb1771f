/-
  Contracts of sleep.Due and sleep.Next; and of the document's Same, of timers.
-/
import Derived.Test.YtonnpmgnbmbooaaSe
import Derived.Test.YtonnpmgnbmbooaaGd
set_option linter.unusedVariables false
set_option linter.unusedSimpArgs false
namespace Go.Proofs.Ytonnpmgnbmbooaa
open Go.RowKit

/-- Who is due: how many, which, who is left. -/
def Sl.many (l : List (Int × Int)) (now : Int) : Nat := (l.takeWhile fun q => decide (q.1 ≤ now)).length
theorem Sl.many_le (l : List (Int × Int)) (now : Int) : Sl.many l now ≤ l.length := (List.takeWhile_sublist _).length_le
def Sl.due (l : List (Int × Int)) (now : Int) : List Int := (l.take (Sl.many l now)).map Prod.snd
def Sl.left (l : List (Int × Int)) (now : Int) : List (Int × Int) := l.drop (Sl.many l now)
theorem Sl.many_lt (l : List (Int × Int)) (now : Int) (j : Nat) (q : Int × Int) (hj : j < Sl.many l now) (hq : l[j]? = some q) : q.1 ≤ now := by
  have h1 := List.takeWhile_append_dropWhile (p := fun q => decide (q.1 ≤ now)) (l := l)
  have h2 : (l.takeWhile fun q => decide (q.1 ≤ now))[j]? = some q := by
    rw [← h1, List.getElem?_append_left hj] at hq; exact hq
  have h3 : ∀ (m : List (Int × Int)), ∀ x ∈ m.takeWhile (fun q => decide (q.1 ≤ now)), x.1 ≤ now := by
    intro m
    induction m with
    | nil => intro x hx; simp at hx
    | cons y m ih =>
      intro x hx
      rw [List.takeWhile_cons] at hx
      by_cases hy : y.1 ≤ now
      · simp [hy] at hx
        rcases hx with rfl | hx
        · exact hy
        · exact ih x hx
      · simp [hy] at hx
  exact h3 l q (List.mem_of_getElem? h2)
theorem Sl.many_stop (l : List (Int × Int)) (now : Int) (q : Int × Int) (hq : l[Sl.many l now]? = some q) : ¬ q.1 ≤ now := by
  induction l with
  | nil => simp at hq
  | cons x l ih =>
    unfold Sl.many at *
    rw [List.takeWhile_cons] at hq
    by_cases hx : x.1 ≤ now
    · simp [hx] at hq
      have := ih hq
      omega
    · simp [hx] at hq
      subst hq; exact hx
theorem Sl.many_next {l : List (Int × Int)} {now : Int} {q : Int × Int} {k : Nat} (hk : k ≤ Sl.many l now) (hq : l[k]? = some q) (h : q.1 ≤ now) : k + 1 ≤ Sl.many l now := by
  rcases Nat.lt_or_ge k (Sl.many l now) with hlt | hge
  · omega
  · obtain rfl : k = Sl.many l now := by omega
    exact absurd h (Sl.many_stop l now q hq)
theorem Sl.many_eq {l : List (Int × Int)} {now : Int} {k : Nat} (hk : k ≤ Sl.many l now) (h : ∀ q, l[k]? = some q → ¬ q.1 ≤ now) : k = Sl.many l now := by
  rcases Nat.lt_or_ge k (Sl.many l now) with hlt | hge
  · have hl := Sl.many_le l now
    have hq := List.getElem?_eq_getElem (l := l) (i := k) (by omega)
    exact absurd (Sl.many_lt l now k _ hlt hq) (h _ hq)
  · omega
def DuePost (p : List Int × List (Int × Int)) (w : World) (r : Ending) (w' : World) : Prop := ∃ g u, r = .returned (.tuple #[g, u]) ∧ IntsAt w' g p.1 ∧ PairsAt w' u p.2 ∧ Ext w w'
theorem ints_none (w : World) : IntsAt w (.slice none 0 0) [] := ⟨none, 0, rfl, fun h => by simp at h⟩
theorem pairs_none (w : World) : PairsAt w (.slice none 0 0) [] := ⟨none, 0, rfl, Nat.le_refl _, fun h => by simp at h⟩
set_option maxRecDepth 100000 in
set_option maxHeartbeats 1000000 in
theorem sdue_yes (v : Value) (xs : List (Int × Int)) (now : Int) (w : World) (h : PairsAt w v xs) (hn : xs.length ≤ 9000) (hr : ∀ p ∈ xs, i64ok p.1 ∧ i64ok p.2) (hm : decide (Sl.May xs) = true) :
    Calls Try.prog 10 #[v, .int .i64 now] w (DuePost (Sl.due xs now, Sl.left xs now) w) := by
  obtain ⟨i0, I0', I1', I2', I3'⟩ := info_parts Try.infoInt
  have I0 := Lib.hid I0'
  have I1 := Lib.hid I1'
  have I2 := Lib.hid I2'
  have I3 := Lib.hid I3'
  clear I0' I1' I2' I3'
  have H := Lib.hid h
  obtain ⟨A, c, rfl, hc, hA⟩ := h
  have HA := Lib.hid hA
  have HR := Lib.hid hr
  have HM := Lib.hid hm
  clear hr hA hm
  go_enter Try.func10, Try.ntmps10
  go_wp2_with fail
  refine (smay_eq _ xs true HM.out _ H.out (by omega) HR.out).mono ?_
  rintro r w1 ⟨rfl, hx1⟩
  have HX1 := Lib.hid hx1
  clear hx1
  go_wp2
  go_loopw [6, 14] (fun gv i wr => ∃ (k : Nat) (g : Value), k ≤ xs.length ∧ i = .int .i64 k ∧ g = gv ∧ k ≤ Sl.many xs now ∧ OwnInts wr w.heap.size g ((xs.take k).map Prod.snd) ∧ Ext w wr) (fun _ i _ => xs.length - (intOf i).toNat)
  case atStart => exact ⟨0, _, by omega, rfl, rfl, by omega, by simpa using OwnInts.nil _ _, HX1.out⟩
  case round =>
    obtain ⟨k, g, hk, rfl, rfl, hat, ho, hx⟩ := hrel
    have HAT := Lib.hid hat
    have HX := Lib.hid hx
    clear hat hx
    by_cases hlt : k < xs.length
    · obtain ⟨b, o, rfl, hb, hcc⟩ := HA.out (by omega)
      have HB := Lib.hid hb
      have HC := Lib.hid (hcc k _ (List.getElem?_eq_getElem hlt))
      have HQ := Lib.hid (List.getElem?_eq_getElem hlt)
      have HTK : Hid (xs.take (k + 1) = xs.take k ++ [xs[k]]) := Lib.hid (List.take_succ_eq_append_getElem hlt)
      clear hcc hb
      generalize xs[k] = p at *
      obtain ⟨p0, p1⟩ := p
      simp only at HC
      have c0 : wr.cell? ⟨b, o + k * 2, none⟩ = some (.int .i64 p0) := by rw [Below.cell HX.out HB.out]; exact HC.out.1
      have c1 : wr.cell? ⟨b, o + k * 2 + 1, none⟩ = some (.int .i64 p1) := by rw [Below.cell HX.out HB.out]; exact HC.out.2
      by_cases hle : p0 ≤ now
      · have HNX := Lib.hid (Sl.many_next HAT.out HQ.out hle)
        have hlen : ((xs.take k).map Prod.snd).length = k := by rw [List.length_map, List.length_take]; omega
        have HLEN := Lib.hid hlen
        have HO := Lib.hid ho
        have hwz := HX.out.size
        clear hlen ho
        go_wp2_with (at_builtin; refine wpList_append_own _ rfl _ _ 28 rfl w.heap.size 3 i0 (.int .i64 0) 1 8 Try.underlying28 I0.out I1.out I2.out I3.out rfl (by decide) _ _ _ rfl ((OwnInts.alloc HO.out _).alloc _) ⟨wr.heap.size + 1, 0, none⟩ 1 1 [.int .i64 p1] rfl rfl ?c1 ?c2 ?c3 ?c4 ?c5 ?_)
        case c1 => have := one_new (wr.alloc (.cells #[.int .i64 p0, .int .i64 p1] 24)) (.int .i64 p1) 3; rwa [World.size_alloc] at this
        case c2 => simp [Value.oneCell']
        case c3 => rw [HLEN.out]; unfold maxLen; omega
        case c4 => rw [HLEN.out]; omega
        case c5 => simp; omega
        intro v' w2 hown2 hgrow2 _
        have HX2 : Hid (Ext w w2) := Lib.hid (Below.grown ((HX.out.alloc _).alloc _) hgrow2 (by simp; omega) (own_block_le HO.out))
        have HO2 : Hid (OwnInts w2 w.heap.size v' ((xs.take (k + 1)).map Prod.snd)) := Lib.hid (by
          rw [HTK.out, List.map_append]
          unfold OwnInts
          rw [List.length_append, intsV_append, HLEN.out, List.map_take]
          exact hown2)
        clear hown2 hgrow2 hwz
        go_wp2
        go_roundw
        case rel => exact ⟨k + 1, v', by omega, by go_num, rfl, HNX.out, HO2.out, HX2.out⟩
        case measure => simp [intOf]; omega
      · have hk2 : k = Sl.many xs now := Sl.many_eq HAT.out fun q hq => by rw [HQ.out] at hq; cases hq; exact hle
        have hgt : now < p0 := by omega
        replace HX : Hid (Ext w (wr.alloc (.cells #[.int .i64 p0, .int .i64 p1] 24))) := Lib.hid (HX.out.alloc _)
        replace ho := OwnInts.alloc ho (.cells #[.int .i64 p0, .int .i64 p1] 24)
        clear hle
        have HO := Lib.hid ho
        have HK2 := Lib.hid hk2
        clear ho hk2
        have hlen : ((xs.take k).map Prod.snd).length = k := by rw [List.length_map, List.length_take]; omega
        obtain ⟨A9, c9, hg9⟩ := HO.out.form
        rw [hlen] at hg9
        subst hg9
        have S2 := srun_from (some ⟨b, o, none⟩) xs.length c k hk hc
        clear hlen
        go_wp2_with fail
        refine (sclone_any _ (xs.drop k) _ (RowsAt.onward (H.out.ext HX.out) hk) (by rw [List.length_drop]; omega)).mono ?_
        rintro r w4 ⟨u, rfl, hou, hx4⟩
        have HOU := Lib.hid hou
        have HX4 := Lib.hid hx4
        clear hou hx4
        go_wp2
        go_ret2
        refine ⟨_, u, rfl, ?_, ?_, HX.out.trans HX4.out⟩
        · unfold Sl.due
          rw [← HK2.out]
          obtain ⟨A8, c8, h8, hI8⟩ := (OwnInts.ext HO.out HX4.out).ints
          rw [h8]
          exact hI8
        · unfold Sl.left
          rw [← HK2.out]
          exact OwnTs.pairs HOU.out
    · have hk2 : k = Sl.many xs now := Sl.many_eq HAT.out fun q hq => by rw [List.getElem?_eq_none (by omega)] at hq; cases hq
      have HO := Lib.hid ho
      have HK2 := Lib.hid hk2
      clear ho hk2
      have hlen : ((xs.take k).map Prod.snd).length = k := by rw [List.length_map, List.length_take]; omega
      obtain ⟨A9, c9, hg9⟩ := HO.out.form
      rw [hlen] at hg9
      subst hg9
      have S2 := srun_from A xs.length c k hk hc
      clear hlen
      go_wp2_with fail
      refine (sclone_any _ (xs.drop k) _ (RowsAt.onward (H.out.ext HX.out) hk) (by rw [List.length_drop]; omega)).mono ?_
      rintro r w4 ⟨u, rfl, hou, hx4⟩
      have HOU := Lib.hid hou
      have HX4 := Lib.hid hx4
      clear hou hx4
      go_wp2
      go_ret2
      refine ⟨_, u, rfl, ?_, ?_, HX.out.trans HX4.out⟩
      · unfold Sl.due
        rw [← HK2.out]
        obtain ⟨A8, c8, h8, hI8⟩ := (OwnInts.ext HO.out HX4.out).ints
        rw [h8]
        exact hI8
      · unfold Sl.left
        rw [← HK2.out]
        exact OwnTs.pairs HOU.out
set_option maxRecDepth 100000 in
set_option maxHeartbeats 1000000 in
theorem sdue_no (v : Value) (xs : List (Int × Int)) (now : Int) (w : World) (h : PairsAt w v xs) (hn : xs.length ≤ 9000) (hr : ∀ p ∈ xs, i64ok p.1 ∧ i64ok p.2) (hm : decide (Sl.May xs) = false) :
    Calls Try.prog 10 #[v, .int .i64 now] w (DuePost ([], []) w) := by
  have H := Lib.hid h
  obtain ⟨A, c, rfl, hc, hA⟩ := h
  have HR := Lib.hid hr
  have HM := Lib.hid hm
  clear hr hA hm
  go_enter Try.func10, Try.ntmps10
  go_wp2_with fail
  refine (smay_eq _ xs false HM.out _ H.out (by omega) HR.out).mono ?_
  rintro r w1 ⟨rfl, hx1⟩
  go_wp2
  go_ret2
  exact ⟨_, _, rfl, ints_none _, pairs_none _, hx1⟩
def Sl.next (l : List (Int × Int)) : Int := if Sl.May l then (match l with | [] => -1 | p :: _ => p.1) else -1
set_option maxRecDepth 100000 in
set_option maxHeartbeats 1000000 in
theorem snext_any (v : Value) (xs : List (Int × Int)) (n : Int) (hne : Sl.next xs = n) (w : World) (h : PairsAt w v xs) (hn : xs.length ≤ 9000) (hr : ∀ p ∈ xs, i64ok p.1 ∧ i64ok p.2) :
    Calls Try.prog 16 #[v] w fun e w' => e = .returned (.int .i64 n) ∧ Ext w w' := by
  have H := Lib.hid h
  obtain ⟨A, c, rfl, hc, hA⟩ := h
  have HR := Lib.hid hr
  have HNE := Lib.hid hne
  clear hr hne
  cases xs with
  | nil =>
    have hv : Hid (n = -1) := Lib.hid (by rw [← HNE.out]; rfl)
    clear hA HNE
    go_enter Try.func16, Try.ntmps16
    go_wp2
    go_ret
    exact ⟨by rw [hv.out]; rfl, Ext.refl _⟩
  | cons p xs =>
    obtain ⟨b, o, rfl, hb, hcc⟩ := hA (by simp)
    have HC := Lib.hid (hcc 0 p rfl)
    have HB := Lib.hid hb
    clear hcc hb hA
    have hz : (((p :: xs).length : Int) == 0) = false := by rw [beq_eq_false_iff_ne]; simp; omega
    cases hm : decide (Sl.May (p :: xs)) with
    | false =>
      have HM := Lib.hid hm
      have hv : Hid (n = -1) := Lib.hid (by rw [← HNE.out]; unfold Sl.next; rw [if_neg (of_decide_eq_false hm)])
      clear hm HNE
      go_enter Try.func16, Try.ntmps16
      go_wp2_with fail
      refine (smay_eq _ (p :: xs) false HM.out _ H.out (by omega) HR.out).mono ?_
      rintro r w1 ⟨rfl, hx1⟩
      go_wp2
      go_ret
      exact ⟨by rw [hv.out]; rfl, hx1⟩
    | true =>
      have HM := Lib.hid hm
      have hv : Hid (n = p.1) := Lib.hid (by rw [← HNE.out]; unfold Sl.next; rw [if_pos (of_decide_eq_true hm)])
      clear hm HNE
      go_enter Try.func16, Try.ntmps16
      go_wp2_with fail
      refine (smay_eq _ (p :: xs) true HM.out _ H.out (by omega) HR.out).mono ?_
      rintro r w1 ⟨rfl, hx1⟩
      have c0 : w1.cell? ⟨b, o, none⟩ = some (.int .i64 p.1) := by rw [Below.cell hx1 HB.out]; have := HC.out.1; simpa using this
      have hl0 : 0 < (p :: xs).length := by simp
      have HX1 := Lib.hid hx1
      clear hx1
      go_wp2
      go_ret
      exact ⟨by rw [hv.out]; rfl, HX1.out⟩

end Go.Proofs.Ytonnpmgnbmbooaa
