/-
  The document's answer for layer 11: Put.
-/
import Derived.Test.YtonnpmgnbmbooaaSn
set_option linter.unusedVariables false
set_option linter.unusedSimpArgs false
namespace Go.Proofs.Ytonnpmgnbmbooaa
open Go.RowKit

/-- Where the document lays a timer: ahead of the first one that it stands ahead of. -/
def Sl.pos (l : List (Int × Int)) (t : Int × Int) : Nat := (l.takeWhile fun q => !decide (Sl.lt t q)).length
def Sl.insR (l : List (Int × Int)) (t : Int × Int) : List (Int × Int) := l.take (Sl.pos l t) ++ [t] ++ l.drop (Sl.pos l t)
theorem Sl.pos_le (l : List (Int × Int)) (t : Int × Int) : Sl.pos l t ≤ l.length := (List.takeWhile_sublist _).length_le
theorem Sl.pos_lt (l : List (Int × Int)) (t : Int × Int) (j : Nat) (q : Int × Int) (hj : j < Sl.pos l t) (hq : l[j]? = some q) : ¬ Sl.lt t q := by
  have h1 := List.takeWhile_append_dropWhile (p := fun q => !decide (Sl.lt t q)) (l := l)
  have h2 : (l.takeWhile fun q => !decide (Sl.lt t q))[j]? = some q := by
    rw [← h1, List.getElem?_append_left hj] at hq; exact hq
  have h3 : ∀ (m : List (Int × Int)), ∀ x ∈ m.takeWhile (fun q => !decide (Sl.lt t q)), ¬ Sl.lt t x := by
    intro m
    induction m with
    | nil => intro x hx; simp at hx
    | cons y m ih =>
      intro x hx
      rw [List.takeWhile_cons] at hx
      by_cases hy : Sl.lt t y
      · simp [hy] at hx
      · simp [hy] at hx
        rcases hx with rfl | hx
        · exact hy
        · exact ih x hx
  exact h3 l q (List.mem_of_getElem? h2)
theorem Sl.pos_stop (l : List (Int × Int)) (t : Int × Int) (q : Int × Int) (hq : l[Sl.pos l t]? = some q) : Sl.lt t q := by
  induction l with
  | nil => simp at hq
  | cons x l ih =>
    unfold Sl.pos at *
    rw [List.takeWhile_cons] at hq
    by_cases hx : Sl.lt t x
    · simp [hx] at hq
      subst hq; exact hx
    · simp [hx] at hq
      exact ih hq
theorem Sl.insR_eq {l : List (Int × Int)} {t : Int × Int} (h : t.2 ∉ l.map Prod.snd) : Sl.insR l t = Sl.ins l t := by
  have : Sl.pos l t = Sl.at l t := by
    unfold Sl.pos Sl.at
    induction l with
    | nil => rfl
    | cons x l ih =>
      have hx : x ≠ t := fun e => h (by rw [e]; simp)
      have ih' := ih fun hm => h (by rw [List.map_cons]; exact List.mem_cons_of_mem _ hm)
      rw [List.takeWhile_cons, List.takeWhile_cons]
      by_cases h1 : Sl.lt t x
      · have h2 : ¬ Sl.lt x t := fun h2 => Sl.lt_irrefl t (Sl.lt_trans h1 h2)
        simp [h1, h2]
      · have h2 : Sl.lt x t := by
          by_cases h2 : Sl.lt x t
          · exact h2
          · exact absurd (Sl.lt_total h2 h1) hx
        simp [h1, h2, ih']
  unfold Sl.insR Sl.ins
  rw [this]
theorem Sl.apart_of {a b : List (Int × Int)} {t : Int × Int} (h : Sl.May (a ++ [t] ++ b)) : t.2 ∉ (a ++ b).map Prod.snd := by
  have h3 := h.2.2
  rw [List.map_append, List.map_append, List.append_assoc, List.nodup_append] at h3
  obtain ⟨_, h4, h5⟩ := h3
  rw [List.map_cons, List.map_nil, List.singleton_append, List.nodup_cons] at h4
  intro hm
  rw [List.map_append, List.mem_append] at hm
  rcases hm with hm | hm
  · exact h5 _ hm _ (by simp) rfl
  · exact h4.1 hm
theorem Sl.insR_may (l : List (Int × Int)) (t : Int × Int) : (decide (Sl.May l) && decide (Sl.May (Sl.insR l t))) = decide (Sl.May (Sl.ins l t)) ∧ (Sl.May (Sl.ins l t) → Sl.insR l t = Sl.ins l t) := by
  have k1 : Sl.May (Sl.ins l t) → t.2 ∉ l.map Prod.snd := fun h => by
    unfold Sl.ins at h
    have := Sl.apart_of h
    rwa [List.take_append_drop] at this
  have k2 : Sl.May (Sl.insR l t) → t.2 ∉ l.map Prod.snd := fun h => by
    unfold Sl.insR at h
    have := Sl.apart_of h
    rwa [List.take_append_drop] at this
  have k3 : Sl.May (Sl.ins l t) → Sl.May l := fun h => by
    refine h.sub ?_
    conv => lhs; rw [← List.take_append_drop (Sl.at l t) l]
    unfold Sl.ins
    rw [List.append_assoc]
    exact List.Sublist.append (List.Sublist.refl _) (List.sublist_append_right _ _)
  refine ⟨?_, fun h => Sl.insR_eq (k1 h)⟩
  rw [Bool.eq_iff_iff]
  simp only [Bool.and_eq_true, decide_eq_true_eq]
  constructor
  · rintro ⟨_, h2⟩
    rw [← Sl.insR_eq (k2 h2)]
    exact h2
  · intro h
    exact ⟨k3 h, by rw [Sl.insR_eq (k1 h)]; exact h⟩
/-- What is laid behind so many rounds. -/
def Sl.part (l : List (Int × Int)) (t : Int × Int) (k : Nat) : List (Int × Int) := if k ≤ Sl.pos l t then l.take k else l.take (Sl.pos l t) ++ [t] ++ (l.take k).drop (Sl.pos l t)
theorem Sl.part_low {l : List (Int × Int)} {t : Int × Int} {k : Nat} (h : k ≤ Sl.pos l t) : Sl.part l t k = l.take k := by unfold Sl.part; rw [if_pos h]
theorem Sl.part_next {l : List (Int × Int)} {t p : Int × Int} {k : Nat} (h : l.take (k + 1) = l.take k ++ [p]) (hk : k < l.length) :
    (k < Sl.pos l t → Sl.part l t (k + 1) = Sl.part l t k ++ [p]) ∧ (k = Sl.pos l t → Sl.part l t (k + 1) = Sl.part l t k ++ [t] ++ [p]) ∧ (Sl.pos l t < k → Sl.part l t (k + 1) = Sl.part l t k ++ [p]) := by
  have hl := Sl.pos_le l t
  refine ⟨fun h1 => ?_, fun h1 => ?_, fun h1 => ?_⟩
  · rw [Sl.part_low (k := k + 1) h1, Sl.part_low (k := k) (by omega), h]
  · rw [Sl.part_low (k := k) (by omega)]
    unfold Sl.part
    have e : (l.take k).length = k := by rw [List.length_take]; omega
    have e2 : (l.take k ++ [p]).drop k = [p] := by
      have := List.drop_left (l₁ := l.take k) (l₂ := [p])
      rwa [e] at this
    rw [if_neg (by omega), h, ← h1, e2]
  · unfold Sl.part
    rw [if_neg (by omega), if_neg (by omega), h, List.drop_append]
    have : Sl.pos l t - (l.take k).length = 0 := by rw [List.length_take]; omega
    rw [this]
    simp
theorem Sl.part_end (l : List (Int × Int)) (t : Int × Int) : (Sl.pos l t < l.length → Sl.part l t l.length = Sl.insR l t) ∧ (Sl.pos l t = l.length → Sl.part l t l.length ++ [t] = Sl.insR l t) := by
  refine ⟨fun h => ?_, fun h => ?_⟩
  · unfold Sl.part Sl.insR
    rw [if_neg (by omega), List.take_length]
  · rw [Sl.part_low (by omega)]
    unfold Sl.insR
    rw [h, List.take_length, List.drop_length]
    simp
theorem Sl.part_len (l : List (Int × Int)) (t : Int × Int) (k : Nat) : (Sl.part l t k).length ≤ l.length + 1 := by
  have := Sl.pos_le l t
  unfold Sl.part
  split
  · rw [List.length_take]; omega
  · rw [List.length_append, List.length_append, List.length_take, List.length_drop, List.length_take, List.length_singleton]; omega
theorem Sl.insR_len (l : List (Int × Int)) (t : Int × Int) : (Sl.insR l t).length = l.length + 1 := by
  have := Sl.pos_le l t
  unfold Sl.insR
  rw [List.length_append, List.length_append, List.length_take, List.length_drop, List.length_singleton]
  omega
/-- What holds at each round's head. -/
def PutAt (xs : List (Int × Int)) (t0 t1 : Int) (w : World) (m : List (Int × Int)) (u : Value) (wr : World) : Prop := OwnTs wr (w.heap.size + 1) u m ∧ Ext (w.alloc (.cells #[.int .i64 t0, .int .i64 t1] 24)) wr
theorem PutAt.ext {xs : List (Int × Int)} {t0 t1 : Int} {w : World} {m : List (Int × Int)} {u : Value} {wr w' : World} (h : PutAt xs t0 t1 w m u wr) (hx : Ext wr w') : PutAt xs t0 t1 w m u w' := ⟨OwnRows.ext h.1 hx, h.2.trans hx⟩
theorem PutAt.add {xs : List (Int × Int)} {t0 t1 : Int} {w : World} {m : List (Int × Int)} {u : Value} {wr : World} (p0 p1 : Int) (h : PutAt xs t0 t1 w m u wr) (hl : m.length ≤ 100000) :
    ∃ u' w', (Builtin.append_ #[22, 22] 22 #[u, .slice (some ⟨wr.heap.size, 0, none⟩) 1 1]).run Try.prog (wr.alloc (.cells #[.int .i64 p0, .int .i64 p1] 24)) = .ok u' w' ∧ PutAt xs t0 t1 w (m ++ [(p0, p1)]) u' w' := by
  obtain ⟨j0, J0, J1, J2, J3⟩ := info_parts Try.infoTimer
  have hs := h.2.size
  rw [World.size_alloc] at hs
  obtain ⟨u', w', hr, ho, hg, _⟩ := OwnRows.append2 (P := Try.prog) 22 Try.underlying22 J0 J1 J2 J3 rfl (by decide) pairL_len pairL_one (OwnRows.alloc h.1 (.cells #[.int .i64 p0, .int .i64 p1] 24)) (ys := [(p0, p1)]) (pairs_one wr p0 p1).rows (by unfold maxLen; simp; omega) (by simp; omega) (by simp; omega)
  exact ⟨u', w', hr, ho, Below.grown (h.2.alloc _) hg (by rw [World.size_alloc, World.size_alloc]; omega) fun k hk => by rw [World.size_alloc]; exact (OwnRows.lt h.1 k hk).1⟩
def PutPost (xs : List (Int × Int)) (t : Int × Int) (ok : Bool) (w : World) (e : Ending) (w' : World) : Prop := ∃ u, e = .returned (.tuple #[u, .bool ok]) ∧ PairsAt w' u (if ok then Sl.ins xs t else []) ∧ Ext w w'
set_option maxRecDepth 100000 in
set_option maxHeartbeats 1000000 in
theorem srput_any (v : Value) (xs : List (Int × Int)) (t0 t1 : Int) (w : World) (h : PairsAt w v xs) (hn : xs.length ≤ 9000) (ok : Bool) (hok : decide (Sl.May (Sl.ins xs (t0, t1))) = ok) :
    Calls Try.prog 9 #[v, .agg #[.int .i64 t0, .int .i64 t1]] w (PutPost xs (t0, t1) ok w) := by
  have H := Lib.hid h
  obtain ⟨A, c, rfl, hc, hA⟩ := h
  have HA := Lib.hid hA
  have HOK := Lib.hid hok
  have HPL := Lib.hid (Sl.pos_le xs (t0, t1))
  clear hA hok
  go_enter Try.func9, Try.ntmps9
  go_wp2
  go_loopw [6, 7, 8] (fun uv bv i wr => ∃ (k : Nat) (u : Value), k ≤ xs.length ∧ i = .int .i64 k ∧ u = uv ∧ bv = .bool (decide (Sl.pos xs (t0, t1) < k)) ∧ PutAt xs t0 t1 w (Sl.part xs (t0, t1) k) u wr) (fun _ _ i _ => xs.length - (intOf i).toNat)
  case atStart =>
    refine ⟨0, _, by omega, rfl, rfl, by simp, ?_, (Ext.refl _).alloc _⟩
    rw [Sl.part_low (Nat.zero_le _)]
    have := World.ownsRow_made (base := w.heap.size + 1) (e := 24) (size := 2) (w.alloc (.cells #[.int .i64 t0, .int .i64 t1] 24)) #[] 0 (by simp) (by decide) rfl
    rwa [World.size_alloc] at this
  case round =>
    obtain ⟨k, u, hk, rfl, rfl, rfl, hpa⟩ := hrel
    by_cases hlt : k < xs.length
    · obtain ⟨b, o, rfl, hb, hcc⟩ := HA.out (by omega)
      have HB := Lib.hid hb
      have HC := Lib.hid (hcc k _ (List.getElem?_eq_getElem hlt))
      have HQ := Lib.hid (List.getElem?_eq_getElem hlt)
      have HTK : Hid (xs.take (k + 1) = xs.take k ++ [xs[k]]) := Lib.hid (List.take_succ_eq_append_getElem hlt)
      have HPL2 : Hid ((Sl.part xs (t0, t1) k).length ≤ 10000) := Lib.hid (by have := Sl.part_len xs (t0, t1) k; omega)
      have HPA := Lib.hid hpa
      have HX := Lib.hid hpa.2
      have HXW : Hid (Ext w wr) := Lib.hid (((Ext.refl w).alloc _).trans hpa.2)
      clear hcc hb hpa
      generalize xs[k] = p at *
      have HNX := Lib.hid (Sl.part_next (t := (t0, t1)) HTK.out hlt)
      obtain ⟨p0, p1⟩ := p
      simp only at HC
      have K0 : ∀ v, Ext wr v → v.cell? ⟨b, o + k * 2, none⟩ = some (.int .i64 p0) := fun v hv => by rw [Below.cell (HXW.out.trans hv) HB.out]; exact HC.out.1
      have K1 : ∀ v, Ext wr v → v.cell? ⟨b, o + k * 2 + 1, none⟩ = some (.int .i64 p1) := fun v hv => by rw [Below.cell (HXW.out.trans hv) HB.out]; exact HC.out.2
      have K2 : ∀ v, Ext wr v → v.cell? ⟨w.heap.size, 0, none⟩ = some (.int .i64 t0) := fun v hv => Ext.box (HX.out.trans hv) 0 _ rfl
      have K3 : ∀ v, Ext wr v → v.cell? ⟨w.heap.size, 1, none⟩ = some (.int .i64 t1) := fun v hv => Ext.box (HX.out.trans hv) 1 _ rfl
      rcases Nat.lt_trichotomy k (Sl.pos xs (t0, t1)) with hkp | hkp | hkp
      · rw [decide_eq_false (show ¬ Sl.pos xs (t0, t1) < k by omega)]
        have HN := Lib.hid (HNX.out.1 hkp)
        have HL : Hid (decide (Sl.lt (t0, t1) (p0, p1)) = false) := Lib.hid (decide_eq_false (Sl.pos_lt xs _ k _ hkp HQ.out))
        have HD : Hid (decide (Sl.pos xs (t0, t1) < k + 1) = false) := Lib.hid (decide_eq_false (by omega))
        clear hkp
        go_wp2
        refine region_all (fun v => Ext wr v) (by kernel_rfl) (Ext.refl _).drew ?_
        refine all_take (i := 0) (v := ?_) rfl (by kernel_rfl) (by kernel_rfl) (by kernel_rfl) (fun _ _ _ h => h) (Tame.yes (by kernel_rfl) fun w hS => ?_) ?_
        rotate_left 1
        · skip
          go_simp
          refine gives_mk ?_ hS
          with_reducible rfl
        refine all_take (i := 1) (v := ?_) rfl (by kernel_rfl) (by kernel_rfl) (by kernel_rfl) (fun _ _ _ h => h) (Tame.yes (by kernel_rfl) fun w hS => ?_) ?_
        rotate_left 1
        · skip
          go_simp
          refine gives_mk ?_ hS
          with_reducible rfl
        refine all_take (i := 2) (v := ?_) rfl (by kernel_rfl) (by kernel_rfl) (by kernel_rfl) (fun _ _ _ h => h) (Tame.yes (by kernel_rfl) fun w hS => ?_) ?_
        rotate_left 1
        · skip
          go_simp
          refine gives_mk ?_ hS
          with_reducible rfl
        refine all_take (i := 3) (v := ?_) rfl (by kernel_rfl) (by kernel_rfl) (by kernel_rfl) (fun _ _ _ h => h) (Tame.yes (by kernel_rfl) fun w hS => ?_) ?_
        rotate_left 1
        · skip
          go_simp
          refine gives_mk ?_ hS
          with_reducible rfl
        refine all_take (i := 4) (v := ?_) rfl (by kernel_rfl) (by kernel_rfl) (by kernel_rfl) (fun _ _ _ h => h) (Tame.yes (by kernel_rfl) fun w hS => ?_) ?_
        rotate_left 1
        · skip
          go_simp
          refine gives_mk ?_ hS
          with_reducible rfl
        refine all_take (i := 5) (v := ?_) rfl (by kernel_rfl) (by kernel_rfl) (by kernel_rfl) (fun _ _ _ h => h) (Tame.yes (by kernel_rfl) fun w hS => ?_) ?_
        rotate_left 1
        · skip
          go_simp
          refine gives_mk ?_ hS
          with_reducible rfl
        refine all_take (i := 6) (v := ?_) rfl (by kernel_rfl) (by kernel_rfl) (by kernel_rfl) (fun _ _ _ h => h) (Tame.yes (by kernel_rfl) fun w hS => ?_) ?_
        rotate_left 1
        · skip
          go_simp
          refine gives_mk ?_ hS
          with_reducible rfl
        refine all_take (i := 7) (v := ?_) rfl (by kernel_rfl) (by kernel_rfl) (by kernel_rfl) (fun _ _ _ h => h) (Tame.yes (by kernel_rfl) fun w hS => ?_) ?_
        rotate_left 1
        · skip
          go_simp
          refine gives_mk ?_ hS
          with_reducible rfl
        refine all_take (i := 8) (v := .bool false) rfl (by kernel_rfl) (by kernel_rfl) (by kernel_rfl) (fun _ _ _ h => h) (Tame.yes (by kernel_rfl) fun w hS => ?_) ?_
        · go_simp
          refine gives_call ((rahead_eq t0 t1 p0 p1 false HL.out _).mono ?_)
          exact fun r w2 ⟨he, hx⟩ => ⟨he, hS.trans hx⟩
        refine all_take (i := 9) (v := ?_) rfl (by kernel_rfl) (by kernel_rfl) (by kernel_rfl) (fun _ _ _ h => h) (Tame.yes (by kernel_rfl) fun w hS => ?_) ?_
        rotate_left 1
        · skip
          go_simp
          refine gives_mk ?_ hS
          with_reducible rfl
        refine all_done (by kernel_rfl) ?_ _
        intro w2 hx2
        have HX2 := Lib.hid hx2
        have c0 := K0 _ hx2
        have c1 := K1 _ hx2
        have c2 := K2 _ hx2
        have c3 := K3 _ hx2
        clear hx2 K0 K1 K2 K3
        go_simp
        obtain ⟨u2, w3, hr3, hp3⟩ := PutAt.add p0 p1 (HPA.out.ext HX2.out) (by have := HPL2.out; omega)
        have HR3 := Lib.hid hr3
        have HP3 := Lib.hid hp3
        clear hr3 hp3
        go_wp2_with (at_builtin; refine wpList_append_run rfl _ _ 22 rfl _ _ rfl rfl HR3.out ?_; clear c0 c1 c2 c3)
        go_roundw
        case rel => exact ⟨k + 1, u2, by omega, by go_num, rfl, by rw [HD.out], by rw [HN.out]; exact HP3.out⟩
        case measure => simp [intOf]; omega
      · rw [decide_eq_false (show ¬ Sl.pos xs (t0, t1) < k by omega)]
        have HN := Lib.hid (HNX.out.2.1 hkp)
        have HL : Hid (decide (Sl.lt (t0, t1) (p0, p1)) = true) := Lib.hid (decide_eq_true (Sl.pos_stop xs _ _ (by rw [← hkp]; exact HQ.out)))
        have HD : Hid (decide (Sl.pos xs (t0, t1) < k + 1) = true) := Lib.hid (decide_eq_true (by omega))
        clear hkp
        go_wp2
        refine region_all (fun v => Ext wr v) (by kernel_rfl) (Ext.refl _).drew ?_
        refine all_take (i := 0) (v := ?_) rfl (by kernel_rfl) (by kernel_rfl) (by kernel_rfl) (fun _ _ _ h => h) (Tame.yes (by kernel_rfl) fun w hS => ?_) ?_
        rotate_left 1
        · skip
          go_simp
          refine gives_mk ?_ hS
          with_reducible rfl
        refine all_take (i := 1) (v := ?_) rfl (by kernel_rfl) (by kernel_rfl) (by kernel_rfl) (fun _ _ _ h => h) (Tame.yes (by kernel_rfl) fun w hS => ?_) ?_
        rotate_left 1
        · skip
          go_simp
          refine gives_mk ?_ hS
          with_reducible rfl
        refine all_take (i := 2) (v := ?_) rfl (by kernel_rfl) (by kernel_rfl) (by kernel_rfl) (fun _ _ _ h => h) (Tame.yes (by kernel_rfl) fun w hS => ?_) ?_
        rotate_left 1
        · skip
          go_simp
          refine gives_mk ?_ hS
          with_reducible rfl
        refine all_take (i := 3) (v := ?_) rfl (by kernel_rfl) (by kernel_rfl) (by kernel_rfl) (fun _ _ _ h => h) (Tame.yes (by kernel_rfl) fun w hS => ?_) ?_
        rotate_left 1
        · skip
          go_simp
          refine gives_mk ?_ hS
          with_reducible rfl
        refine all_take (i := 4) (v := ?_) rfl (by kernel_rfl) (by kernel_rfl) (by kernel_rfl) (fun _ _ _ h => h) (Tame.yes (by kernel_rfl) fun w hS => ?_) ?_
        rotate_left 1
        · skip
          go_simp
          refine gives_mk ?_ hS
          with_reducible rfl
        refine all_take (i := 5) (v := ?_) rfl (by kernel_rfl) (by kernel_rfl) (by kernel_rfl) (fun _ _ _ h => h) (Tame.yes (by kernel_rfl) fun w hS => ?_) ?_
        rotate_left 1
        · skip
          go_simp
          refine gives_mk ?_ hS
          with_reducible rfl
        refine all_take (i := 6) (v := ?_) rfl (by kernel_rfl) (by kernel_rfl) (by kernel_rfl) (fun _ _ _ h => h) (Tame.yes (by kernel_rfl) fun w hS => ?_) ?_
        rotate_left 1
        · skip
          go_simp
          refine gives_mk ?_ hS
          with_reducible rfl
        refine all_take (i := 7) (v := ?_) rfl (by kernel_rfl) (by kernel_rfl) (by kernel_rfl) (fun _ _ _ h => h) (Tame.yes (by kernel_rfl) fun w hS => ?_) ?_
        rotate_left 1
        · skip
          go_simp
          refine gives_mk ?_ hS
          with_reducible rfl
        refine all_take (i := 8) (v := .bool true) rfl (by kernel_rfl) (by kernel_rfl) (by kernel_rfl) (fun _ _ _ h => h) (Tame.yes (by kernel_rfl) fun w hS => ?_) ?_
        · go_simp
          refine gives_call ((rahead_eq t0 t1 p0 p1 true HL.out _).mono ?_)
          exact fun r w2 ⟨he, hx⟩ => ⟨he, hS.trans hx⟩
        refine all_take (i := 9) (v := ?_) rfl (by kernel_rfl) (by kernel_rfl) (by kernel_rfl) (fun _ _ _ h => h) (Tame.yes (by kernel_rfl) fun w hS => ?_) ?_
        rotate_left 1
        · skip
          go_simp
          refine gives_mk ?_ hS
          with_reducible rfl
        refine all_done (by kernel_rfl) ?_ _
        intro w2 hx2
        have HX2 := Lib.hid hx2
        have c0 := K0 _ hx2
        have c1 := K1 _ hx2
        have c2 := K2 _ hx2
        have c3 := K3 _ hx2
        clear hx2 K0 K1 K2 K3
        go_simp
        obtain ⟨u2, w3, hr3, hp3⟩ := PutAt.add t0 t1 (HPA.out.ext HX2.out) (by have := HPL2.out; omega)
        have HX3 := Lib.hid hp3.2
        have d0 : w3.cell? ⟨b, o + k * 2, none⟩ = some (.int .i64 p0) := by rw [Below.cell (((Ext.refl w).alloc _).trans HX3.out) HB.out]; exact HC.out.1
        have d1 : w3.cell? ⟨b, o + k * 2 + 1, none⟩ = some (.int .i64 p1) := by rw [Below.cell (((Ext.refl w).alloc _).trans HX3.out) HB.out]; exact HC.out.2
        obtain ⟨u3, w4, hr4, hp4⟩ := PutAt.add p0 p1 hp3 (by have := HPL2.out; simp; omega)
        have HR3 := Lib.hid hr3
        have HR4 := Lib.hid hr4
        have HP4 := Lib.hid hp4
        clear hr3 hp3 hr4 hp4
        go_wp2_with (first | (at_builtin; refine wpList_append_run rfl _ _ 22 rfl u _ rfl rfl HR3.out ?_; clear c0 c1 c2 c3 HR3) | (at_builtin; refine wpList_append_run rfl _ _ 22 rfl u2 _ rfl rfl HR4.out ?_))
        go_roundw
        case rel => exact ⟨k + 1, u3, by omega, by go_num, rfl, by rw [HD.out], by rw [HN.out]; exact HP4.out⟩
        case measure => simp [intOf]; omega
      · rw [decide_eq_true (show Sl.pos xs (t0, t1) < k by omega)]
        have HN := Lib.hid (HNX.out.2.2 hkp)
        have HD : Hid (decide (Sl.pos xs (t0, t1) < k + 1) = true) := Lib.hid (decide_eq_true (by omega))
        clear hkp
        go_wp2
        refine region_all (fun v => Ext wr v) (by kernel_rfl) (Ext.refl _).drew ?_
        refine all_take (i := 0) (v := ?_) rfl (by kernel_rfl) (by kernel_rfl) (by kernel_rfl) (fun _ _ _ h => h) (Tame.yes (by kernel_rfl) fun w hS => ?_) ?_
        rotate_left 1
        · skip
          go_simp
          refine gives_mk ?_ hS
          with_reducible rfl
        refine all_take (i := 1) (v := ?_) rfl (by kernel_rfl) (by kernel_rfl) (by kernel_rfl) (fun _ _ _ h => h) (Tame.yes (by kernel_rfl) fun w hS => ?_) ?_
        rotate_left 1
        · skip
          go_simp
          refine gives_mk ?_ hS
          with_reducible rfl
        refine all_take (i := 2) (v := ?_) rfl (by kernel_rfl) (by kernel_rfl) (by kernel_rfl) (fun _ _ _ h => h) (Tame.yes (by kernel_rfl) fun w hS => ?_) ?_
        rotate_left 1
        · skip
          go_simp
          refine gives_mk ?_ hS
          with_reducible rfl
        refine all_take (i := 3) rfl (by kernel_rfl) (by kernel_rfl) (by kernel_rfl) (fun _ _ _ h => h) (Tame.no (by kernel_rfl)) ?_
        refine all_take (i := 4) rfl (by kernel_rfl) (by kernel_rfl) (by kernel_rfl) (fun _ _ _ h => h) (Tame.no (by kernel_rfl)) ?_
        refine all_take (i := 5) rfl (by kernel_rfl) (by kernel_rfl) (by kernel_rfl) (fun _ _ _ h => h) (Tame.no (by kernel_rfl)) ?_
        refine all_take (i := 6) rfl (by kernel_rfl) (by kernel_rfl) (by kernel_rfl) (fun _ _ _ h => h) (Tame.no (by kernel_rfl)) ?_
        refine all_take (i := 7) rfl (by kernel_rfl) (by kernel_rfl) (by kernel_rfl) (fun _ _ _ h => h) (Tame.no (by kernel_rfl)) ?_
        refine all_take (i := 8) rfl (by kernel_rfl) (by kernel_rfl) (by kernel_rfl) (fun _ _ _ h => h) (Tame.no (by kernel_rfl)) ?_
        refine all_take (i := 9) (v := ?_) rfl (by kernel_rfl) (by kernel_rfl) (by kernel_rfl) (fun _ _ _ h => h) (Tame.yes (by kernel_rfl) fun w hS => ?_) ?_
        rotate_left 1
        · skip
          go_simp
          refine gives_mk ?_ hS
          with_reducible rfl
        refine all_done (by kernel_rfl) ?_ _
        intro w2 hx2
        have HX2 := Lib.hid hx2
        have c0 := K0 _ hx2
        have c1 := K1 _ hx2
        have c2 := K2 _ hx2
        have c3 := K3 _ hx2
        clear hx2 K0 K1 K2 K3
        go_simp
        obtain ⟨u2, w3, hr3, hp3⟩ := PutAt.add p0 p1 (HPA.out.ext HX2.out) (by have := HPL2.out; omega)
        have HR3 := Lib.hid hr3
        have HP3 := Lib.hid hp3
        clear hr3 hp3
        go_wp2_with (at_builtin; refine wpList_append_run rfl _ _ 22 rfl _ _ rfl rfl HR3.out ?_; clear c0 c1 c2 c3)
        go_roundw
        case rel => exact ⟨k + 1, u2, by omega, by go_num, rfl, by rw [HD.out], by rw [HN.out]; exact HP3.out⟩
        case measure => simp [intOf]; omega
    · obtain rfl : k = xs.length := by omega
      by_cases hpe : Sl.pos xs (t0, t1) < xs.length
      · rw [decide_eq_true hpe]
        rw [(Sl.part_end xs (t0, t1)).1 hpe] at hpa
        clear hpe
        obtain ⟨hp1, hx1⟩ := hpa
        have HPE := Lib.hid (OwnTs.pairs hp1)
        have HXE : Hid (Ext w wr) := Lib.hid (((Ext.refl w).alloc _).trans hx1)
        clear hp1 hx1
        obtain ⟨Az, cz, rfl, _⟩ := HPE.out.rows.form
        cases hb1 : decide (Sl.May xs) with
        | false =>
          have HB1 := Lib.hid hb1
          have HOK2 : Hid (ok = false) := Lib.hid (by have := HOK.out; rw [← (Sl.insR_may xs (t0, t1)).1, hb1] at this; simpa using this.symm)
          clear hb1
          go_wp2_with fail
          refine (srmay_eq _ xs false HB1.out _ (H.out.ext HXE.out) (by omega)).mono ?_
          rintro r1 wa ⟨rfl, hxa⟩
          go_wp2
          go_ret2
          rw [HOK2.out]
          exact ⟨_, rfl, pairs_none _, HXE.out.trans hxa⟩
        | true =>
          have HB1 := Lib.hid hb1
          have HOKB : Hid (decide (Sl.May (Sl.insR xs (t0, t1))) = ok) := Lib.hid (by have := HOK.out; rw [← (Sl.insR_may xs (t0, t1)).1, hb1] at this; simpa using this)
          clear hb1
          go_wp2_with fail
          refine (srmay_eq _ xs true HB1.out _ (H.out.ext HXE.out) (by omega)).mono ?_
          rintro r1 wa ⟨rfl, hxa⟩
          have HPA := Lib.hid (HPE.out.ext hxa)
          have HXA := Lib.hid (HXE.out.trans hxa)
          clear hxa
          go_wp2_with fail
          refine (srmay_eq _ _ ok HOKB.out _ HPA.out (by rw [Sl.insR_len]; omega)).mono ?_
          rintro r1 wb ⟨rfl, hxb⟩
          have HPB := Lib.hid (HPA.out.ext hxb)
          have HXB2 := Lib.hid (HXA.out.trans hxb)
          clear hxb
          cases ok with
          | false =>
            go_wp2
            go_ret2
            exact ⟨_, rfl, pairs_none _, HXB2.out⟩
          | true =>
            have HEQ := Lib.hid ((Sl.insR_may xs (t0, t1)).2 (of_decide_eq_true HOK.out))
            go_wp2
            go_ret2
            refine ⟨_, rfl, ?_, HXB2.out⟩
            rw [if_pos rfl, ← HEQ.out]
            exact HPB.out
      · have hpe2 : Sl.pos xs (t0, t1) = xs.length := by have := HPL.out; omega
        rw [decide_eq_false hpe]
        have HPE2 := Lib.hid ((Sl.part_end xs (t0, t1)).2 hpe2)
        have k0 : wr.cell? ⟨w.heap.size, 0, none⟩ = some (.int .i64 t0) := Ext.box hpa.2 0 _ rfl
        have k1 : wr.cell? ⟨w.heap.size, 1, none⟩ = some (.int .i64 t1) := Ext.box hpa.2 1 _ rfl
        obtain ⟨u2, wz, hr3, hpb⟩ := PutAt.add t0 t1 hpa (by have := Sl.part_len xs (t0, t1) xs.length; omega)
        have HR3 := Lib.hid hr3
        have HPZ := Lib.hid hpb
        clear hpe hpe2 hr3 hpb hpa
        go_wp2_with (at_builtin; refine wpList_append_run rfl _ _ 22 rfl _ _ rfl rfl HR3.out ?_; clear k0 k1)
        have hpa := HPZ.out
        rw [HPE2.out] at hpa
        clear HPZ HPE2
        obtain ⟨hp1, hx1⟩ := hpa
        have HPE := Lib.hid (OwnTs.pairs hp1)
        have HXE : Hid (Ext w wz) := Lib.hid (((Ext.refl w).alloc _).trans hx1)
        clear hp1 hx1
        obtain ⟨Az, cz, rfl, _⟩ := HPE.out.rows.form
        cases hb1 : decide (Sl.May xs) with
        | false =>
          have HB1 := Lib.hid hb1
          have HOK2 : Hid (ok = false) := Lib.hid (by have := HOK.out; rw [← (Sl.insR_may xs (t0, t1)).1, hb1] at this; simpa using this.symm)
          clear hb1
          go_wp2_with fail
          refine (srmay_eq _ xs false HB1.out _ (H.out.ext HXE.out) (by omega)).mono ?_
          rintro r1 wa ⟨rfl, hxa⟩
          go_wp2
          go_ret2
          rw [HOK2.out]
          exact ⟨_, rfl, pairs_none _, HXE.out.trans hxa⟩
        | true =>
          have HB1 := Lib.hid hb1
          have HOKB : Hid (decide (Sl.May (Sl.insR xs (t0, t1))) = ok) := Lib.hid (by have := HOK.out; rw [← (Sl.insR_may xs (t0, t1)).1, hb1] at this; simpa using this)
          clear hb1
          go_wp2_with fail
          refine (srmay_eq _ xs true HB1.out _ (H.out.ext HXE.out) (by omega)).mono ?_
          rintro r1 wa ⟨rfl, hxa⟩
          have HPA := Lib.hid (HPE.out.ext hxa)
          have HXA := Lib.hid (HXE.out.trans hxa)
          clear hxa
          go_wp2_with fail
          refine (srmay_eq _ _ ok HOKB.out _ HPA.out (by rw [Sl.insR_len]; omega)).mono ?_
          rintro r1 wb ⟨rfl, hxb⟩
          have HPB := Lib.hid (HPA.out.ext hxb)
          have HXB2 := Lib.hid (HXA.out.trans hxb)
          clear hxb
          cases ok with
          | false =>
            go_wp2
            go_ret2
            exact ⟨_, rfl, pairs_none _, HXB2.out⟩
          | true =>
            have HEQ := Lib.hid ((Sl.insR_may xs (t0, t1)).2 (of_decide_eq_true HOK.out))
            go_wp2
            go_ret2
            refine ⟨_, rfl, ?_, HXB2.out⟩
            rw [if_pos rfl, ← HEQ.out]
            exact HPB.out

end Go.Proofs.Ytonnpmgnbmbooaa
