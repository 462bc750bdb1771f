/-
  Several texts in one: Tzj, Tzo.
-/
import Derived.Test.YtogcfndhcphpaaaK16
import Derived.Test.YtogcfndhcphpaaaK04
/-
  The state that a program begins with: the program's New.
-/
set_option linter.unusedVariables false
set_option linter.unusedSimpArgs false
namespace Go.Proofs.Ytogcfndhcphpaaa
open Go.RowKit

/-- A block made in a drawn region, with these cells. -/
def HasB (M : Nat) (T : TypeId) (cs : Array Value) (n : Nat) (w : World) (v : Value) : Prop := ∃ x, v = .slice (some ⟨x, 0, none⟩) n n ∧ M ≤ x ∧ w.heap[x]? = some (.cells cs T (0, 0))
theorem HasB.ext {M n : Nat} {T : TypeId} {cs : Array Value} {w w' : World} {v : Value} (h : HasB M T cs n w v) (hx : Ext w w') : HasB M T cs n w' v := by
  obtain ⟨x, h1, h2, h3⟩ := h
  exact ⟨x, h1, h2, hx.blk h3⟩
theorem HasB.updz {M n g : Nat} {T : TypeId} {cs : Array Value} {w w' : World} {v : Value} (h : HasB M T cs n w v) (hu : Upd g w w') (hg : g < M) : HasB M T cs n w' v := by
  obtain ⟨x, h1, h2, h3⟩ := h
  exact ⟨x, h1, h2, hu.blk h3 (by omega)⟩
theorem NestIn.monoB {α : Type} {L H L' H' m : Nat} {f : α → List Value} {w : World} {v : Value} {xss : List (List α)} (h : NestIn L H m f w v xss) (hl : L' ≤ L) (hh : H ≤ H') : NestIn L' H' m f w v xss := by
  obtain ⟨vs, h1, h2, h3⟩ := h
  exact ⟨vs, h1, h2.mono hl hh, fun i u xs a b => (h3 i u xs a b).mono hl hh⟩
/-- A slice of slices in blocks from M on. -/
def NestF {α : Type} (M m : Nat) (f : α → List Value) (w : World) (v : Value) (p : List (List α)) : Prop := ∃ H, H ≤ w.heap.size ∧ NestIn M H m f w v p
theorem NestF.ext {α : Type} {M m : Nat} {f : α → List Value} {w w' : World} {v : Value} {p : List (List α)} (h : NestF M m f w v p) (hx : Ext w w') : NestF M m f w' v p := by
  obtain ⟨H, h1, h2⟩ := h
  exact ⟨H, Nat.le_trans h1 hx.size, h2.ext hx⟩
theorem NestF.updz {α : Type} {M m g : Nat} {f : α → List Value} {w w' : World} {v : Value} {p : List (List α)} (h : NestF M m f w v p) (hu : Upd g w w') (hg : g < M) : NestF M m f w' v p := by
  obtain ⟨H, h1, h2⟩ := h
  exact ⟨H, Nat.le_trans h1 hu.size, h2.but (But.upd (S := fun i => i = g) hu rfl) (fun b h3 _ h4 => by omega)⟩
theorem St.made_one (A : Option Addr) (c g q l : Nat) (p : List (List (Int × Int))) (n : Int) : ∀ u ∈ stL (StH.made A c g q l) (St.made p n), u.oneCell' = true := stL_one _ _
set_option maxRecDepth 100000 in
set_option maxHeartbeats 16000000 in
theorem sNew_any (v : Value) (p : List (List (Int × Int))) (n : Int) (r : St × Int) (hr : St.new p n = r) (w : World) (h : NestAt 2 pairL w v p) (h1 : p.length ≤ 100000) (h2 : ∀ l ∈ p, l.length ≤ 100000) :
    Calls Try.prog 38 #[v, .int .i64 n] w fun e w' => ∃ h', e = .returned (.tuple #[stV h' r.1, .int .i64 r.2]) ∧ StOk w' h' r.1 ∧ Ext w w' := by
  subst hr
  have H := Lib.hid h
  obtain ⟨A, c, rfl⟩ := h.form2
  obtain ⟨w1, hw1⟩ : ∃ w1, w.alloc (.cells #[.slice none 0 0, .slice none 0 0, .slice none 0 0, .slice none 0 0, .slice none 0 0, .int .i64 0, .int .i64 0, .int .i64 0, .int .i64 0, .slice none 0 0, .slice none 0 0, .slice none 0 0, .slice none 0 0, .slice none 0 0, .int .i64 0, .int .i64 0] 32) = w1 := ⟨_, rfl⟩
  obtain ⟨R, hR⟩ : ∃ R, w.heap.size = R := ⟨_, rfl⟩
  have hx1 : Ext w w1 := by rw [← hw1]; exact (Ext.refl w).alloc _
  have HX1 := Lib.hid hx1
  have HR1 : Hid (w1.heap[R]? = some (.cells #[.slice none 0 0, .slice none 0 0, .slice none 0 0, .slice none 0 0, .slice none 0 0, .int .i64 0, .int .i64 0, .int .i64 0, .int .i64 0, .slice none 0 0, .slice none 0 0, .slice none 0 0, .slice none 0 0, .slice none 0 0, .int .i64 0, .int .i64 0] 32 (0, 0))) := Lib.hid (by rw [← hw1, ← hR]; exact blk_new w _)
  obtain ⟨bp, hbp⟩ : ∃ bp, Pg.may p = bp := ⟨_, rfl⟩
  have HBP := Lib.hid hbp
  have HPM := Lib.hid (pmay_any _ p bp hbp w1 (h.ext hx1) h1 h2)
  have H12 : Hid (p.length ≤ 100000 ∧ ∀ l ∈ p, l.length ≤ 100000) := Lib.hid ⟨h1, h2⟩
  have HW1 := Lib.hid hw1
  have HRR := Lib.hid hR
  clear h hw1 hR hx1 hbp h2
  go_enter Try.func38, Try.ntmps38
  go_wp2_with (rw [HW1.out])
  refine HPM.out.mono ?_
  rintro e w3 ⟨rfl, hx3⟩
  rw [HRR.out]
  have HX3 := Lib.hid (HX1.out.trans hx3)
  have HR3 := Lib.hid (hx3.blk HR1.out)
  clear hx3
  by_cases hok : Pg.may p = true ∧ 1 ≤ n ∧ n ≤ 8
  rotate_left 1
  · skip
    obtain ⟨wf, hwf⟩ : ∃ wf, w3.setCells R 0 (stL StH.nil St.nil) = wf := ⟨_, rfl⟩
    have HWF := Lib.hid hwf
    have HUF : Hid (Upd R w3 wf) := Lib.hid (by rw [← hwf]; exact setCells_upd _ _ _ _)
    have HRZ : Hid (wf.heap[R]? = some (.cells (stL StH.nil St.nil).toArray 32 (0, 0))) := Lib.hid (by rw [← hwf]; exact setCells_at [.slice none 0 0, .slice none 0 0, .slice none 0 0, .slice none 0 0, .slice none 0 0, .int .i64 0, .int .i64 0, .int .i64 0, .int .i64 0, .slice none 0 0, .slice none 0 0, .slice none 0 0, .slice none 0 0, .slice none 0 0, .int .i64 0, .int .i64 0] (stL StH.nil St.nil) rfl HR3.out)
    have HTH : Hid (w3.there R 0 (stL StH.nil St.nil).length) := Lib.hid (there_row HR3.out (Nat.le_refl 16))
    have HXZ : Hid (Ext w wf) := Lib.hid (HX3.out.upd HUF.out (by have := HRR.out; omega))
    clear hwf
    cases bp with
    | false =>
      have HN : Hid (St.new p n = (St.nil, 1)) := Lib.hid (St.new_no (by intro h; have h1 := HBP.out; have h2 := h.1; simp_all <;> omega))
      go_wp2_with (refine wpList_store_row rfl 32 _ _ rfl R (stL StH.nil St.nil) (stV StH.nil St.nil) rfl rfl rfl HTH.out (by kernel_rfl) (stL_one _ _) HWF.out ?_)
      refine bodyPost_cell_tmp rfl R _ _ _ _ rfl HRZ.out Try.underlying32 rfl (by kernel_rfl) (.int .i64 1) rfl rfl ?_
      rw [HN.out]
      exact ⟨StH.nil, rfl, StOk.nil _, HXZ.out⟩
    | true =>
      by_cases a1 : n < 1
      · skip
        have HN : Hid (St.new p n = (St.nil, 1)) := Lib.hid (St.new_no (by intro h; have h1 := HBP.out; have h2 := h.1; simp_all <;> omega))
        go_wp2_with (refine wpList_store_row rfl 32 _ _ rfl R (stL StH.nil St.nil) (stV StH.nil St.nil) rfl rfl rfl HTH.out (by kernel_rfl) (stL_one _ _) HWF.out ?_)
        refine bodyPost_cell_tmp rfl R _ _ _ _ rfl HRZ.out Try.underlying32 rfl (by kernel_rfl) (.int .i64 1) rfl rfl ?_
        rw [HN.out]
        exact ⟨StH.nil, rfl, StOk.nil _, HXZ.out⟩
      · have a2 : 8 < n := by have := HBP.out; first | (simp_all; done) | (simp_all; omega)
        have a1' : decide (n < 1) = false := by simpa using a1
        clear hok a1
        have HN : Hid (St.new p n = (St.nil, 1)) := Lib.hid (St.new_no (by intro h; have h1 := HBP.out; have h2 := h.1; simp_all <;> omega))
        go_wp2_with (refine wpList_store_row rfl 32 _ _ rfl R (stL StH.nil St.nil) (stV StH.nil St.nil) rfl rfl rfl HTH.out (by kernel_rfl) (stL_one _ _) HWF.out ?_)
        refine bodyPost_cell_tmp rfl R _ _ _ _ rfl HRZ.out Try.underlying32 rfl (by kernel_rfl) (.int .i64 1) rfl rfl ?_
        rw [HN.out]
        exact ⟨StH.nil, rfl, StOk.nil _, HXZ.out⟩
  · obtain rfl : bp = true := by rw [← HBP.out]; exact hok.1
    have HN : Hid (St.new p n = (St.made p n, 0)) := Lib.hid (St.new_yes hok)
    have a1 : 1 ≤ n := hok.2.1
    have a2 : n ≤ 8 := hok.2.2
    clear hok
    obtain ⟨M, hM⟩ : ∃ M, w3.heap.size = M := ⟨_, rfl⟩
    have HM := Lib.hid hM
    have hRM : R < M := by rw [← hM]; exact blk_lt HR3.out
    have hRw : w.heap.size ≤ R := by have := HRR.out; omega
    have hMM : M ≤ w3.heap.size := by omega
    have hX3 : Ext w w3 := HX3.out
    have hK3 : ∃ x : StH × St, w3.heap[R]? = some (.cells (stC x.1 x.2) 32 (0, 0)) := ⟨(StH.nil, St.nil), HR3.out⟩
    have hmk := make_ps
    clear hM
    obtain ⟨rb, rfl⟩ : ∃ rb, rb = R := ⟨_, rfl⟩
    go_wp2_with fail
    refine region_rgz ([(1, (fun u => ∃ A c, u = .slice A p.length c : Value → Prop), (fun u w => NestF M 2 pairL w (u 1).v p : (Nat → GV) → World → Prop)), (3, (fun u => ∃ x, u = .slice (some ⟨x, 0, none⟩) 1 1 : Value → Prop), (fun u w => HasB M 55 #[.int .i64 0, .int .i64 0, .int .i64 1, .int .i64 0, .int .i64 0] 1 w (u 3).v : (Nat → GV) → World → Prop)), (4, (fun u => ∃ x, u = .slice (some ⟨x, 0, none⟩) 8 8 : Value → Prop), (fun u w => HasB M 40 (madeCells #[.int .i64 0, .int .i64 0, .int .i64 0, .int .i64 0, .int .i64 0, .int .i64 0, .int .i64 0, .int .i64 0, .int .i64 0, .int .i64 0, .int .i64 0, .int .i64 0, .int .i64 0] 104) 8 w (u 4).v : (Nat → GV) → World → Prop)), (5, (fun u => ∃ x, u = .slice (some ⟨x, 0, none⟩) 1 1 : Value → Prop), (fun u w => HasB M 3 #[.int .i64 1] 1 w (u 5).v : (Nat → GV) → World → Prop)), (8, (fun u => u = undef : Value → Prop), (fun u w => w.heap[rb]? = some (.cells #[(u 1).v, (u 3).v, (u 4).v, .slice none 0 0, (u 5).v, .int .i64 0, .int .i64 0, .int .i64 0, .int .i64 0, .slice none 0 0, .slice none 0 0, .slice none 0 0, .slice none 0 0, .slice none 0 0, .int .i64 0, .int .i64 n] 32 (0, 0)) : (Nat → GV) → World → Prop))]) (w) (M) (rb) (8) (fun w => ∃ x : StH × St, w.heap[rb]? = some (.cells (stC x.1 x.2) 32 (0, 0))) ([]) (by kernel_rfl) (by kernel_rfl) ?_ ?_ (by omega) (fun w w2 hl hk => by first | (obtain ⟨x, hx⟩ := hk; exact ⟨x, (hl _ (by omega)).trans hx⟩) | exact hk.low hl (by assumption)) ?_ ?_ ?_ ?_
    · exact List.forall_mem_nil _
    · exact List.forall_mem_cons.2 ⟨⟨⟨_, none, 0, rfl⟩, fun u v w h ht => by show (fun u w => NestF M 2 pairL w (u 1).v p : (Nat → GV) → World → Prop) v w; dsimp only; rw [← h 1 (.inl rfl) (by kernel_rfl)]; exact ht, fun u w w2 hx ht => ht.ext hx, List.forall_mem_nil _, fun _ u w w2 hz ht => ht.updz hz (by omega)⟩, List.forall_mem_cons.2 ⟨⟨⟨_, 0, rfl⟩, fun u v w h ht => by show (fun u w => HasB M 55 #[.int .i64 0, .int .i64 0, .int .i64 1, .int .i64 0, .int .i64 0] 1 w (u 3).v : (Nat → GV) → World → Prop) v w; dsimp only; rw [← h 3 (.inl rfl) (by kernel_rfl)]; exact ht, fun u w w2 hx ht => ht.ext hx, List.forall_mem_nil _, fun _ u w w2 hz ht => ht.updz hz (by omega)⟩, List.forall_mem_cons.2 ⟨⟨⟨_, 0, rfl⟩, fun u v w h ht => by show (fun u w => HasB M 40 (madeCells #[.int .i64 0, .int .i64 0, .int .i64 0, .int .i64 0, .int .i64 0, .int .i64 0, .int .i64 0, .int .i64 0, .int .i64 0, .int .i64 0, .int .i64 0, .int .i64 0, .int .i64 0] 104) 8 w (u 4).v : (Nat → GV) → World → Prop) v w; dsimp only; rw [← h 4 (.inl rfl) (by kernel_rfl)]; exact ht, fun u w w2 hx ht => ht.ext hx, List.forall_mem_nil _, fun _ u w w2 hz ht => ht.updz hz (by omega)⟩, List.forall_mem_cons.2 ⟨⟨⟨_, 0, rfl⟩, fun u v w h ht => by show (fun u w => HasB M 3 #[.int .i64 1] 1 w (u 5).v : (Nat → GV) → World → Prop) v w; dsimp only; rw [← h 5 (.inl rfl) (by kernel_rfl)]; exact ht, fun u w w2 hx ht => ht.ext hx, List.forall_mem_nil _, fun _ u w w2 hz ht => ht.updz hz (by omega)⟩, List.forall_mem_cons.2 ⟨⟨⟨_, rfl⟩, fun u v w h ht => by show (fun u w => w.heap[rb]? = some (.cells #[(u 1).v, (u 3).v, (u 4).v, .slice none 0 0, (u 5).v, .int .i64 0, .int .i64 0, .int .i64 0, .int .i64 0, .slice none 0 0, .slice none 0 0, .slice none 0 0, .slice none 0 0, .slice none 0 0, .int .i64 0, .int .i64 n] 32 (0, 0)) : (Nat → GV) → World → Prop) v w; dsimp only; rw [← h 1 (.inr (by kernel_rfl)) (by kernel_rfl), ← h 3 (.inr (by kernel_rfl)) (by kernel_rfl), ← h 4 (.inr (by kernel_rfl)) (by kernel_rfl), ← h 5 (.inr (by kernel_rfl)) (by kernel_rfl)]; exact ht, fun u w w2 hx ht => hx.blk ht, List.forall_mem_nil _, fun hne => absurd rfl hne⟩, List.forall_mem_nil _⟩⟩⟩⟩⟩
    · first | assumption | exact Ext.refl _
    · first | assumption | omega
    · assumption
    refine rg_pure (v := ?_) rfl (by kernel_rfl) (by kernel_rfl) (fun w hS hN => ?_) ?_
    rotate_left 1
    · obtain ⟨hS, hM, hK⟩ := hS
      clear hN
      go_simp
      refine givesP_mk ?_
      with_reducible rfl
    refine rg_mem (fun u => ∃ A c, u = .slice A p.length c : Value → Prop) (fun u w => NestF M 2 pairL w (u 1).v p : (Nat → GV) → World → Prop) (fun _ => Ext) rfl rfl rfl rfl (by kernel_rfl) (by kernel_rfl) (fun w hS hN R hR => ?_) ?_
    · obtain ⟨hS, hM, hK⟩ := hS
      have HR := Lib.hid hR
      clear hR
      (try clear hN)
      go_simp
      refine givesM_call ((scloneProg_any _ p w (H.out.ext hS) H12.out.1 H12.out.2).mono ?_)
      rintro e w' ⟨A2, c2, rfl, hn2, hx2⟩
      exact ⟨_, rfl, HR.out _ _ ⟨_, _, rfl⟩ ⟨_, Nat.le_refl _, hn2.monoB hM (Nat.le_refl _)⟩ hx2⟩
    rintro u1 s1 t1 ⟨A1, c1, rfl⟩
    refine rg_pure (v := ?_) rfl (by kernel_rfl) (by kernel_rfl) (fun w hS hN => ?_) ?_
    rotate_left 1
    · obtain ⟨hS, hM, hK⟩ := hS
      clear hN
      go_simp
      refine givesP_mk ?_
      with_reducible rfl
    refine rg_mem (fun u => ∃ x, u = .slice (some ⟨x, 0, none⟩) 1 1 : Value → Prop) (fun u w => HasB M 55 #[.int .i64 0, .int .i64 0, .int .i64 1, .int .i64 0, .int .i64 0] 1 w (u 3).v : (Nat → GV) → World → Prop) (fun _ => Ext) rfl rfl rfl rfl (by kernel_rfl) (by kernel_rfl) (fun w hS hN R hR => ?_) ?_
    · obtain ⟨hS, hM, hK⟩ := hS
      have HR := Lib.hid hR
      clear hR
      (try clear hN)
      go_simp
      exact givesM_val (HR.out _ _ ⟨_, rfl⟩ ⟨_, rfl, hM, blk_new w _⟩ ((Ext.refl w).alloc _))
    rintro u3 s3 t3 ⟨x3, rfl⟩
    refine rg_mem (fun u => ∃ x, u = .slice (some ⟨x, 0, none⟩) 8 8 : Value → Prop) (fun u w => HasB M 40 (madeCells #[.int .i64 0, .int .i64 0, .int .i64 0, .int .i64 0, .int .i64 0, .int .i64 0, .int .i64 0, .int .i64 0, .int .i64 0, .int .i64 0, .int .i64 0, .int .i64 0, .int .i64 0] 104) 8 w (u 4).v : (Nat → GV) → World → Prop) (fun _ => Ext) rfl rfl rfl rfl (by kernel_rfl) (by kernel_rfl) (fun w hS hN R hR => ?_) ?_
    · obtain ⟨hS, hM, hK⟩ := hS
      have HR := Lib.hid hR
      clear hR
      have hmk4 := make_ps w
      (try clear hN)
      go_simp
      exact givesM_val (HR.out _ _ ⟨_, rfl⟩ ⟨_, rfl, hM, blk_new w _⟩ ((Ext.refl w).alloc _))
    rintro u4 s4 t4 ⟨x4, rfl⟩
    refine rg_mem (fun u => ∃ x, u = .slice (some ⟨x, 0, none⟩) 1 1 : Value → Prop) (fun u w => HasB M 3 #[.int .i64 1] 1 w (u 5).v : (Nat → GV) → World → Prop) (fun _ => Ext) rfl rfl rfl rfl (by kernel_rfl) (by kernel_rfl) (fun w hS hN R hR => ?_) ?_
    · obtain ⟨hS, hM, hK⟩ := hS
      have HR := Lib.hid hR
      clear hR
      (try clear hN)
      go_simp
      exact givesM_val (HR.out _ _ ⟨_, rfl⟩ ⟨_, rfl, hM, blk_new w _⟩ ((Ext.refl w).alloc _))
    rintro u5 s5 t5 ⟨x5, rfl⟩
    refine rg_pure (v := ?_) rfl (by kernel_rfl) (by kernel_rfl) (fun w hS hN => ?_) ?_
    rotate_left 1
    · obtain ⟨hS, hM, hK⟩ := hS
      clear hN
      go_simp
      refine givesP_mk ?_
      with_reducible rfl
    refine rg_pure (v := ?_) rfl (by kernel_rfl) (by kernel_rfl) (fun w hS hN => ?_) ?_
    rotate_left 1
    · obtain ⟨hS, hM, hK⟩ := hS
      clear hN
      go_simp
      refine givesP_mk ?_
      with_reducible rfl
    refine rg_mem (fun u => u = undef : Value → Prop) (fun u w => w.heap[rb]? = some (.cells #[(u 1).v, (u 3).v, (u 4).v, .slice none 0 0, (u 5).v, .int .i64 0, .int .i64 0, .int .i64 0, .int .i64 0, .slice none 0 0, .slice none 0 0, .slice none 0 0, .slice none 0 0, .slice none 0 0, .int .i64 0, .int .i64 n] 32 (0, 0)) : (Nat → GV) → World → Prop) (fun _ w w2 => Upd (rb) w w2 ∧ (fun w => ∃ x : StH × St, w.heap[rb]? = some (.cells (stC x.1 x.2) 32 (0, 0)) : World → Prop) w2) rfl rfl rfl rfl (by kernel_rfl) (by kernel_rfl) (fun w hS hN R hR => ?_) ?_
    · obtain ⟨hS, hM, hK⟩ := hS
      have HR := Lib.hid hR
      clear hR
      obtain ⟨x, hx⟩ := hK
      have HXK := Lib.hid hx
      clear hx hN
      refine givesM_store 32 _ _ rfl rb 0 (by go_simp) (stL (StH.made A1 c1 x3 x4 x5) (St.made p n)) (by go_simp; rfl) (there_row HXK.out (Nat.le_refl 16)) (by kernel_rfl) (stL_one _ _) ?_
      exact HR.out _ _ rfl (setCells_at (stL x.1 x.2) (stL (StH.made A1 c1 x3 x4 x5) (St.made p n)) rfl HXK.out) ⟨setCells_upd _ _ _ _, ⟨(_, _), setCells_at (stL x.1 x.2) (stL (StH.made A1 c1 x3 x4 x5) (St.made p n)) rfl HXK.out⟩⟩
    rintro u8 s8 t8 rfl
    refine rg_pure (v := ?_) rfl (by kernel_rfl) (by kernel_rfl) (fun w hS hN => ?_) ?_
    rotate_left 1
    · obtain ⟨hS, hM, hK⟩ := hS
      clear hN
      go_simp
      refine givesP_mk ?_
      with_reducible rfl
    refine rg_done rfl (Nat.le_of_ble_eq_true (by kernel_rfl)) ?_
    intro w8 hS hT
    have k1 : NestF M 2 pairL w8 (.slice A1 p.length c1) p := hT (1, ⟨.slice A1 p.length c1, s1, t1⟩) (by simp)
    have k3 : HasB M 55 #[.int .i64 0, .int .i64 0, .int .i64 1, .int .i64 0, .int .i64 0] 1 w8 (.slice (some ⟨x3, 0, none⟩) 1 1) := hT (3, ⟨.slice (some ⟨x3, 0, none⟩) 1 1, s3, t3⟩) (by simp)
    have k4 : HasB M 40 (madeCells #[.int .i64 0, .int .i64 0, .int .i64 0, .int .i64 0, .int .i64 0, .int .i64 0, .int .i64 0, .int .i64 0, .int .i64 0, .int .i64 0, .int .i64 0, .int .i64 0, .int .i64 0] 104) 8 w8 (.slice (some ⟨x4, 0, none⟩) 8 8) := hT (4, ⟨.slice (some ⟨x4, 0, none⟩) 8 8, s4, t4⟩) (by simp)
    have k5 : HasB M 3 #[.int .i64 1] 1 w8 (.slice (some ⟨x5, 0, none⟩) 1 1) := hT (5, ⟨.slice (some ⟨x5, 0, none⟩) 1 1, s5, t5⟩) (by simp)
    have k8 : w8.heap[rb]? = some (.cells (stC (StH.made A1 c1 x3 x4 x5) (St.made p n)) 32 (0, 0)) := hT (8, ⟨undef, s8, t8⟩) (by simp)
    have HOK : Hid (StOk w8 (StH.made A1 c1 x3 x4 x5) (St.made p n)) := Lib.hid (by
      obtain ⟨_, h3, _, h3'⟩ := k3
      obtain ⟨_, h4, _, h4'⟩ := k4
      obtain ⟨_, h5, _, h5'⟩ := k5
      obtain ⟨H1, _, h1⟩ := k1
      simp only [Value.slice.injEq, Option.some.injEq, Addr.mk.injEq, and_true] at h3 h4 h5
      subst h3 h4 h5
      exact StOk.made h1.nest h3' h4' h5')
    have HX8 := Lib.hid hS.1
    have HRZ := Lib.hid k8
    clear k1 k3 k4 k5 k8 hS hT hmk hK3 hX3
    go_simp
    go_wp2
    refine bodyPost_cell_tmp rfl rb _ _ _ _ rfl HRZ.out Try.underlying32 rfl (by kernel_rfl) (.int .i64 0) rfl rfl ?_
    rw [HN.out]
    exact ⟨StH.made A1 c1 x3 x4 x5, rfl, HOK.out, HX8.out⟩
end Go.Proofs.Ytogcfndhcphpaaa
/-
  The document's copy of a state, I: its program.
-/
set_option linter.unusedVariables false
set_option linter.unusedSimpArgs false
namespace Go.Proofs.Ytogcfndhcphpaaa
open Go.RowKit

set_option maxRecDepth 100000 in
set_option maxHeartbeats 1000000 in
theorem rowninst_any (v : Value) (xs : List Int) (w : World) (hR : IntsAt w v xs) (hn : xs.length ≤ 1000000) : Calls Try.prog 48 #[v] w fun e w' => ∃ u, e = .returned u ∧ OwnInts w' w.heap.size u xs ∧ Ext w w' := by
  obtain ⟨A, c, rfl⟩ := hR.form
  obtain ⟨w1, hw1⟩ : ∃ w1, w.alloc (.cells #[] 3) = w1 := ⟨_, rfl⟩
  have hmade : OwnInts w1 w.heap.size (.slice (some ⟨w.heap.size, 0, none⟩) 0 0) [] := by rw [← hw1]; exact ints_made w
  have hx1 : Ext w w1 := by rw [← hw1]; exact (Ext.refl w).alloc _
  obtain ⟨A2, c2, w2, hr, ho, hx, hz⟩ := ints_more hmade rfl rfl (hR.ext hx1) (Nat.le_refl _) hx1.size hx1 (by simp; omega)
  have HR := Lib.hid hr
  have HO := Lib.hid ho
  have HX := Lib.hid hx
  have HW1 := Lib.hid hw1
  clear hr ho hx hz hmade hx1 hR hw1
  go_enter Try.func48, Try.ntmps48
  go_wp2_with (first | rw [HW1.out] | (at_builtin; refine wpList_append_run rfl _ _ 27 rfl _ _ rfl rfl HR.out ?_))
  go_ret
  exact ⟨_, rfl, by simpa using HO.out, HX.out⟩
/-- A copy of a program's first codes: headers of its own, and codes in blocks of their own, apart from those. -/
structure PrA (w : World) (L : Nat) (hv : Value) (ns : List (Option Addr × Nat × Nat)) (p : List (List (Int × Int))) (k : Nat) : Prop where
  own : OwnRows 69 1 hdrL w L hv ns
  len : ns.length = k
  rows : ∀ (i : Nat) x l, ns[i]? = some x → p[i]? = some l → OwnRows 68 2 pairL w L (.slice x.1 x.2.1 x.2.2) l ∧ ∀ b, (Value.slice x.1 x.2.1 x.2.2).ownBlock = some b → hv.ownBlock ≠ some b
theorem PrA.ext {w w' : World} {L k : Nat} {hv : Value} {ns : List (Option Addr × Nat × Nat)} {p : List (List (Int × Int))} (h : PrA w L hv ns p k) (hx : Ext w w') : PrA w' L hv ns p k :=
  ⟨h.own.ext hx, h.len, fun i x l hi hl => ⟨(h.rows i x l hi hl).1.ext hx, (h.rows i x l hi hl).2⟩⟩
theorem PrA.updB {w w' : World} {L k g : Nat} {hv : Value} {ns : List (Option Addr × Nat × Nat)} {p : List (List (Int × Int))} (h : PrA w L hv ns p k) (hu : Upd g w w') (hg : g < L) : PrA w' L hv ns p k :=
  ⟨h.own.updB hu hg, h.len, fun i x l hi hl => ⟨(h.rows i x l hi hl).1.updB hu hg, (h.rows i x l hi hl).2⟩⟩
theorem PrA.nest {w : World} {L : Nat} {A : Option Addr} {n c : Nat} {ns : List (Option Addr × Nat × Nat)} {p : List (List (Int × Int))} (h : PrA w L (.slice A n c) ns p p.length) : NestIn L w.heap.size 2 pairL w (.slice A n c) p := by
  obtain ⟨A', c', hv, hc, hA⟩ := OwnRows.rowsIn hdrL_len h.own
  refine ⟨ns.map fun x => .slice x.1 x.2.1 x.2.2, by rw [List.length_map]; exact h.len, ⟨A', c', by rw [List.length_map]; exact hv, by rw [List.length_map]; exact hc, fun h0 => ?_⟩, fun i u xs hu hxs => ?_⟩
  · obtain ⟨b, o, hb, h1, h2, h3, h4⟩ := hA (by simpa using h0)
    refine ⟨b, o, hb, h1, h2, h3, fun j x hj i u hu => ?_⟩
    rw [List.getElem?_map, Option.map_eq_some_iff] at hj
    obtain ⟨y, hy, rfl⟩ := hj
    refine h4 j y hy i u ?_
    match i with
    | 0 => simp [oneL] at hu; subst hu; rfl
    | i + 1 => simp [oneL] at hu
  · rw [List.getElem?_map, Option.map_eq_some_iff] at hu
    obtain ⟨y, hy, rfl⟩ := hu
    exact OwnRows.rowsIn pairL_len (h.rows i y xs hy hxs).1
/-- One code more. -/
theorem PrA.push {w w0 : World} {L k : Nat} {hv : Value} {ns : List (Option Addr × Nat × Nat)} {p : List (List (Int × Int))} (h : PrA w0 L hv ns p k) (hx : Ext w0 w) (hL : L ≤ w0.heap.size) {x : Option Addr × Nat × Nat} {l : List (Int × Int)} (hl : p[k]? = some l) (ho : OwnRows 68 2 pairL w w0.heap.size (.slice x.1 x.2.1 x.2.2) l)
    {g : Nat} (hg : w.heap[g]? = some (.cells #[.slice x.1 x.2.1 x.2.2] 69 (0, 0))) (hk : k ≤ 100000) :
    ∃ A c w', (Builtin.append_ #[23, 23] 23 #[hv, .slice (some ⟨g, 0, none⟩) 1 1]).run Try.prog w = .ok (.slice A (k + 1) c) w' ∧ PrA w' L (.slice A (k + 1) c) (ns ++ [x]) p (k + 1) ∧ w.grownBy w' hv.ownBlock := by
  obtain ⟨i0, I0, I1, I2, I3⟩ := info_parts Try.infoCode
  have hrow : RowsAt 1 hdrL w (.slice (some ⟨g, 0, none⟩) [x].length 1) [x] := ⟨_, _, rfl, Nat.le_refl 1, fun _ => ⟨g, 0, rfl, blk_lt hg, fun j y hj i u hu => by
    match j, i with
    | 0, 0 => simp at hj; subst hj; simp [hdrL] at hu; subst hu; exact blk_cell hg _ _ rfl
    | 0, i + 1 => simp [hdrL] at hu
    | j + 1, _ => simp at hj⟩⟩
  obtain ⟨v', w', hr, ho', hgr, hb⟩ := OwnRows.append2 (P := Try.prog) (e := 69) (m := 1) (f := hdrL) 23 Try.underlying23 I0 I1 I2 I3 rfl (by decide) hdrL_len hdrL_one (h.own.ext hx) hrow (by rw [h.len]; simp [maxLen]; omega) (by rw [h.len]; simp; omega) (Nat.le_trans hL hx.size)
  obtain ⟨A, c, rfl, -⟩ := (OwnRows.rows hdrL_len ho').form
  have hlen : (ns ++ [x]).length = k + 1 := by rw [List.length_append, h.len]; rfl
  rw [hlen] at hr ho' hb
  refine ⟨A, c, w', hr, ⟨ho', hlen, fun i y l' hi hl' => ?_⟩, hgr⟩
  rw [List.getElem?_append] at hi
  split at hi
  · obtain ⟨h1, h2⟩ := h.rows i y l' hi hl'
    have h3 : ∀ b, (Value.slice y.1 y.2.1 y.2.2).ownBlock = some b → b < w0.heap.size := fun b hb' => (h1.lt b hb').2
    refine ⟨(h1.ext hx).kept hgr ?_, fun b hb' => ?_⟩
    · cases hyb : (Value.slice y.1 y.2.1 y.2.2).ownBlock with
      | none => exact .inl rfl
      | some b => exact .inr fun e => h2 b hyb e.symm
    · rcases hb with hb | hb
      · rw [hb]; exact h2 b hb'
      · rw [hb]; intro e; injection e with e; have := h3 b hb'; have := hx.size; omega
  · rename_i hge
    have hi0 : i = ns.length := by
      have := (List.getElem?_eq_some_iff.1 hi).1
      simp at this; omega
    subst hi0
    simp only [Nat.sub_self, List.getElem?_cons_zero, Option.some.injEq] at hi
    subst hi
    obtain rfl : l' = l := by rw [h.len, hl] at hl'; exact (Option.some.inj hl').symm
    refine ⟨OwnRows.lowB (ho.kept hgr ?_) hL, fun b hb' => ?_⟩
    · cases hyb : (Value.slice x.1 x.2.1 x.2.2).ownBlock with
      | none => exact .inl rfl
      | some b =>
        refine .inr fun e => ?_
        have h1 := (ho.lt b hyb).1
        have h2 := (h.own.lt b e.symm).2
        omega
    · have h1 := ho.lt b hb'
      rcases hb with hb | hb
      · rw [hb]; intro e
        have h2 := (h.own.lt b e).2
        omega
      · rw [hb]; intro e; injection e with e; omega
end Go.Proofs.Ytogcfndhcphpaaa
