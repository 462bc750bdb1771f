/-
  Several texts in one: Tzj, Gi, Tza.
-/
import Derived.Test.YtbcclhahpcbadaaK15
import Derived.Test.YtbcclhahpcbadaaK08
import Derived.Deep.MidRow
import Derived.Test.YtbcclhahpcbadaaK07
/-
  The state that a program begins with: the program's New.
-/
set_option linter.unusedVariables false
set_option linter.unusedSimpArgs false
namespace Go.Proofs.Ytbcclhahpcbadaa
open Go.RowKit

/-- A block made in a drawn region, with these cells. -/
def HasB (M : Nat) (T : TypeId) (cs : Array Value) (n : Nat) (w : World) (v : Value) : Prop := ∃ x, v = .slice (some ⟨x, 0, none⟩) n n ∧ M ≤ x ∧ w.heap[x]? = some (.cells cs T (0, 0))
theorem HasB.ext {M n : Nat} {T : TypeId} {cs : Array Value} {w w' : World} {v : Value} (h : HasB M T cs n w v) (hx : Ext w w') : HasB M T cs n w' v := by
  obtain ⟨x, h1, h2, h3⟩ := h
  exact ⟨x, h1, h2, hx.blk h3⟩
theorem HasB.updz {M n g : Nat} {T : TypeId} {cs : Array Value} {w w' : World} {v : Value} (h : HasB M T cs n w v) (hu : Upd g w w') (hg : g < M) : HasB M T cs n w' v := by
  obtain ⟨x, h1, h2, h3⟩ := h
  exact ⟨x, h1, h2, hu.blk h3 (by omega)⟩
theorem NestIn.monoB {α : Type} {L H L' H' m : Nat} {f : α → List Value} {w : World} {v : Value} {xss : List (List α)} (h : NestIn L H m f w v xss) (hl : L' ≤ L) (hh : H ≤ H') : NestIn L' H' m f w v xss := by
  obtain ⟨vs, h1, h2, h3⟩ := h
  exact ⟨vs, h1, h2.mono hl hh, fun i u xs a b => (h3 i u xs a b).mono hl hh⟩
/-- A slice of slices in blocks from M on. -/
def NestF {α : Type} (M m : Nat) (f : α → List Value) (w : World) (v : Value) (p : List (List α)) : Prop := ∃ H, H ≤ w.heap.size ∧ NestIn M H m f w v p
theorem NestF.ext {α : Type} {M m : Nat} {f : α → List Value} {w w' : World} {v : Value} {p : List (List α)} (h : NestF M m f w v p) (hx : Ext w w') : NestF M m f w' v p := by
  obtain ⟨H, h1, h2⟩ := h
  exact ⟨H, Nat.le_trans h1 hx.size, h2.ext hx⟩
theorem NestF.updz {α : Type} {M m g : Nat} {f : α → List Value} {w w' : World} {v : Value} {p : List (List α)} (h : NestF M m f w v p) (hu : Upd g w w') (hg : g < M) : NestF M m f w' v p := by
  obtain ⟨H, h1, h2⟩ := h
  exact ⟨H, Nat.le_trans h1 hu.size, h2.but (But.upd (S := fun i => i = g) hu rfl) (fun b h3 _ h4 => by omega)⟩
theorem St.made_one (A : Option Addr) (c g q l : Nat) (p : List (List (Int × Int))) (n : Int) : ∀ u ∈ stL (StH.made A c g q l) (St.made p n), u.oneCell' = true := stL_one _ _
set_option maxRecDepth 100000 in
set_option maxHeartbeats 16000000 in
theorem sNew_any (v : Value) (p : List (List (Int × Int))) (n : Int) (r : St × Int) (hr : St.new p n = r) (w : World) (h : NestAt 2 pairL w v p) (h1 : p.length ≤ 100000) (h2 : ∀ l ∈ p, l.length ≤ 100000) :
    Calls Try.prog 11 #[v, .int .i64 n] w fun e w' => ∃ h', e = .returned (.tuple #[stV h' r.1, .int .i64 r.2]) ∧ StOk w' h' r.1 ∧ Ext w w' := by
  subst hr
  have H := Lib.hid h
  obtain ⟨A, c, rfl⟩ := h.form2
  obtain ⟨w1, hw1⟩ : ∃ w1, w.alloc (.cells #[.slice none 0 0, .slice none 0 0, .slice none 0 0, .slice none 0 0, .slice none 0 0, .int .i64 0, .int .i64 0, .int .i64 0, .int .i64 0, .slice none 0 0, .slice none 0 0, .slice none 0 0, .slice none 0 0, .slice none 0 0, .int .i64 0, .int .i64 0] 32) = w1 := ⟨_, rfl⟩
  obtain ⟨R, hR⟩ : ∃ R, w.heap.size = R := ⟨_, rfl⟩
  have hx1 : Ext w w1 := by rw [← hw1]; exact (Ext.refl w).alloc _
  have HX1 := Lib.hid hx1
  have HR1 : Hid (w1.heap[R]? = some (.cells #[.slice none 0 0, .slice none 0 0, .slice none 0 0, .slice none 0 0, .slice none 0 0, .int .i64 0, .int .i64 0, .int .i64 0, .int .i64 0, .slice none 0 0, .slice none 0 0, .slice none 0 0, .slice none 0 0, .slice none 0 0, .int .i64 0, .int .i64 0] 32 (0, 0))) := Lib.hid (by rw [← hw1, ← hR]; exact blk_new w _)
  obtain ⟨bp, hbp⟩ : ∃ bp, Pg.may p = bp := ⟨_, rfl⟩
  have HBP := Lib.hid hbp
  have HPM := Lib.hid (pmay_any _ p bp hbp w1 (h.ext hx1) h1 h2)
  have H12 : Hid (p.length ≤ 100000 ∧ ∀ l ∈ p, l.length ≤ 100000) := Lib.hid ⟨h1, h2⟩
  have HW1 := Lib.hid hw1
  have HRR := Lib.hid hR
  clear h hw1 hR hx1 hbp h2
  go_enter Try.func11, Try.ntmps11
  go_wp2_with (rw [HW1.out])
  refine HPM.out.mono ?_
  rintro e w3 ⟨rfl, hx3⟩
  rw [HRR.out]
  have HX3 := Lib.hid (HX1.out.trans hx3)
  have HR3 := Lib.hid (hx3.blk HR1.out)
  clear hx3
  by_cases hok : Pg.may p = true ∧ 1 ≤ n ∧ n ≤ 8
  rotate_left 1
  · skip
    obtain ⟨wf, hwf⟩ : ∃ wf, w3.setCells R 0 (stL StH.nil St.nil) = wf := ⟨_, rfl⟩
    have HWF := Lib.hid hwf
    have HUF : Hid (Upd R w3 wf) := Lib.hid (by rw [← hwf]; exact setCells_upd _ _ _ _)
    have HRZ : Hid (wf.heap[R]? = some (.cells (stL StH.nil St.nil).toArray 32 (0, 0))) := Lib.hid (by rw [← hwf]; exact setCells_at [.slice none 0 0, .slice none 0 0, .slice none 0 0, .slice none 0 0, .slice none 0 0, .int .i64 0, .int .i64 0, .int .i64 0, .int .i64 0, .slice none 0 0, .slice none 0 0, .slice none 0 0, .slice none 0 0, .slice none 0 0, .int .i64 0, .int .i64 0] (stL StH.nil St.nil) rfl HR3.out)
    have HTH : Hid (w3.there R 0 (stL StH.nil St.nil).length) := Lib.hid (there_row HR3.out (Nat.le_refl 16))
    have HXZ : Hid (Ext w wf) := Lib.hid (HX3.out.upd HUF.out (by have := HRR.out; omega))
    clear hwf
    cases bp with
    | false =>
      have HN : Hid (St.new p n = (St.nil, 1)) := Lib.hid (St.new_no (by intro h; have h1 := HBP.out; have h2 := h.1; simp_all <;> omega))
      go_wp2_with (refine wpList_store_row rfl 32 _ _ rfl R (stL StH.nil St.nil) (stV StH.nil St.nil) rfl rfl rfl HTH.out (by kernel_rfl) (stL_one _ _) HWF.out ?_)
      refine bodyPost_cell_tmp rfl R _ _ _ _ rfl HRZ.out Try.underlying32 rfl (by kernel_rfl) (.int .i64 1) rfl rfl ?_
      rw [HN.out]
      exact ⟨StH.nil, rfl, StOk.nil _, HXZ.out⟩
    | true =>
      by_cases a1 : n < 1
      · skip
        have HN : Hid (St.new p n = (St.nil, 1)) := Lib.hid (St.new_no (by intro h; have h1 := HBP.out; have h2 := h.1; simp_all <;> omega))
        go_wp2_with (refine wpList_store_row rfl 32 _ _ rfl R (stL StH.nil St.nil) (stV StH.nil St.nil) rfl rfl rfl HTH.out (by kernel_rfl) (stL_one _ _) HWF.out ?_)
        refine bodyPost_cell_tmp rfl R _ _ _ _ rfl HRZ.out Try.underlying32 rfl (by kernel_rfl) (.int .i64 1) rfl rfl ?_
        rw [HN.out]
        exact ⟨StH.nil, rfl, StOk.nil _, HXZ.out⟩
      · have a2 : 8 < n := by have := HBP.out; first | (simp_all; done) | (simp_all; omega)
        have a1' : decide (n < 1) = false := by simpa using a1
        clear hok a1
        have HN : Hid (St.new p n = (St.nil, 1)) := Lib.hid (St.new_no (by intro h; have h1 := HBP.out; have h2 := h.1; simp_all <;> omega))
        go_wp2_with (refine wpList_store_row rfl 32 _ _ rfl R (stL StH.nil St.nil) (stV StH.nil St.nil) rfl rfl rfl HTH.out (by kernel_rfl) (stL_one _ _) HWF.out ?_)
        refine bodyPost_cell_tmp rfl R _ _ _ _ rfl HRZ.out Try.underlying32 rfl (by kernel_rfl) (.int .i64 1) rfl rfl ?_
        rw [HN.out]
        exact ⟨StH.nil, rfl, StOk.nil _, HXZ.out⟩
  · obtain rfl : bp = true := by rw [← HBP.out]; exact hok.1
    have HN : Hid (St.new p n = (St.made p n, 0)) := Lib.hid (St.new_yes hok)
    have a1 : 1 ≤ n := hok.2.1
    have a2 : n ≤ 8 := hok.2.2
    clear hok
    obtain ⟨M, hM⟩ : ∃ M, w3.heap.size = M := ⟨_, rfl⟩
    have HM := Lib.hid hM
    have hRM : R < M := by rw [← hM]; exact blk_lt HR3.out
    have hRw : w.heap.size ≤ R := by have := HRR.out; omega
    have hMM : M ≤ w3.heap.size := by omega
    have hX3 : Ext w w3 := HX3.out
    have hK3 : ∃ x : StH × St, w3.heap[R]? = some (.cells (stC x.1 x.2) 32 (0, 0)) := ⟨(StH.nil, St.nil), HR3.out⟩
    have hmk := make_ps
    clear hM
    obtain ⟨rb, rfl⟩ : ∃ rb, rb = R := ⟨_, rfl⟩
    go_wp2_with fail
    refine region_rgz ([(1, (fun u => ∃ A c, u = .slice A p.length c : Value → Prop), (fun u w => NestF M 2 pairL w (u 1).v p : (Nat → GV) → World → Prop)), (3, (fun u => ∃ x, u = .slice (some ⟨x, 0, none⟩) 1 1 : Value → Prop), (fun u w => HasB M 50 #[.int .i64 0, .int .i64 0, .int .i64 1, .int .i64 0, .int .i64 0] 1 w (u 3).v : (Nat → GV) → World → Prop)), (4, (fun u => ∃ x, u = .slice (some ⟨x, 0, none⟩) 8 8 : Value → Prop), (fun u w => HasB M 59 (madeCells #[.int .i64 0, .int .i64 0, .int .i64 0, .int .i64 0, .int .i64 0, .int .i64 0, .int .i64 0, .int .i64 0, .int .i64 0, .int .i64 0, .int .i64 0, .int .i64 0, .int .i64 0] 104) 8 w (u 4).v : (Nat → GV) → World → Prop)), (5, (fun u => ∃ x, u = .slice (some ⟨x, 0, none⟩) 1 1 : Value → Prop), (fun u w => HasB M 3 #[.int .i64 1] 1 w (u 5).v : (Nat → GV) → World → Prop)), (8, (fun u => u = undef : Value → Prop), (fun u w => w.heap[rb]? = some (.cells #[(u 1).v, (u 3).v, (u 4).v, .slice none 0 0, (u 5).v, .int .i64 0, .int .i64 0, .int .i64 0, .int .i64 0, .slice none 0 0, .slice none 0 0, .slice none 0 0, .slice none 0 0, .slice none 0 0, .int .i64 0, .int .i64 n] 32 (0, 0)) : (Nat → GV) → World → Prop))]) (w) (M) (rb) (8) (fun w => ∃ x : StH × St, w.heap[rb]? = some (.cells (stC x.1 x.2) 32 (0, 0))) ([]) (by kernel_rfl) (by kernel_rfl) ?_ ?_ (by omega) (fun w w2 hl hk => by first | (obtain ⟨x, hx⟩ := hk; exact ⟨x, (hl _ (by omega)).trans hx⟩) | exact hk.low hl (by assumption)) ?_ ?_ ?_ ?_
    · exact List.forall_mem_nil _
    · exact List.forall_mem_cons.2 ⟨⟨⟨_, none, 0, rfl⟩, fun u v w h ht => by show (fun u w => NestF M 2 pairL w (u 1).v p : (Nat → GV) → World → Prop) v w; dsimp only; rw [← h 1 (.inl rfl) (by kernel_rfl)]; exact ht, fun u w w2 hx ht => ht.ext hx, List.forall_mem_nil _, fun _ u w w2 hz ht => ht.updz hz (by omega)⟩, List.forall_mem_cons.2 ⟨⟨⟨_, 0, rfl⟩, fun u v w h ht => by show (fun u w => HasB M 50 #[.int .i64 0, .int .i64 0, .int .i64 1, .int .i64 0, .int .i64 0] 1 w (u 3).v : (Nat → GV) → World → Prop) v w; dsimp only; rw [← h 3 (.inl rfl) (by kernel_rfl)]; exact ht, fun u w w2 hx ht => ht.ext hx, List.forall_mem_nil _, fun _ u w w2 hz ht => ht.updz hz (by omega)⟩, List.forall_mem_cons.2 ⟨⟨⟨_, 0, rfl⟩, fun u v w h ht => by show (fun u w => HasB M 59 (madeCells #[.int .i64 0, .int .i64 0, .int .i64 0, .int .i64 0, .int .i64 0, .int .i64 0, .int .i64 0, .int .i64 0, .int .i64 0, .int .i64 0, .int .i64 0, .int .i64 0, .int .i64 0] 104) 8 w (u 4).v : (Nat → GV) → World → Prop) v w; dsimp only; rw [← h 4 (.inl rfl) (by kernel_rfl)]; exact ht, fun u w w2 hx ht => ht.ext hx, List.forall_mem_nil _, fun _ u w w2 hz ht => ht.updz hz (by omega)⟩, List.forall_mem_cons.2 ⟨⟨⟨_, 0, rfl⟩, fun u v w h ht => by show (fun u w => HasB M 3 #[.int .i64 1] 1 w (u 5).v : (Nat → GV) → World → Prop) v w; dsimp only; rw [← h 5 (.inl rfl) (by kernel_rfl)]; exact ht, fun u w w2 hx ht => ht.ext hx, List.forall_mem_nil _, fun _ u w w2 hz ht => ht.updz hz (by omega)⟩, List.forall_mem_cons.2 ⟨⟨⟨_, rfl⟩, fun u v w h ht => by show (fun u w => w.heap[rb]? = some (.cells #[(u 1).v, (u 3).v, (u 4).v, .slice none 0 0, (u 5).v, .int .i64 0, .int .i64 0, .int .i64 0, .int .i64 0, .slice none 0 0, .slice none 0 0, .slice none 0 0, .slice none 0 0, .slice none 0 0, .int .i64 0, .int .i64 n] 32 (0, 0)) : (Nat → GV) → World → Prop) v w; dsimp only; rw [← h 1 (.inr (by kernel_rfl)) (by kernel_rfl), ← h 3 (.inr (by kernel_rfl)) (by kernel_rfl), ← h 4 (.inr (by kernel_rfl)) (by kernel_rfl), ← h 5 (.inr (by kernel_rfl)) (by kernel_rfl)]; exact ht, fun u w w2 hx ht => hx.blk ht, List.forall_mem_nil _, fun hne => absurd rfl hne⟩, List.forall_mem_nil _⟩⟩⟩⟩⟩
    · first | assumption | exact Ext.refl _
    · first | assumption | omega
    · assumption
    refine rg_pure (v := ?_) rfl (by kernel_rfl) (by kernel_rfl) (fun w hS hN => ?_) ?_
    rotate_left 1
    · obtain ⟨hS, hM, hK⟩ := hS
      clear hN
      go_simp
      refine givesP_mk ?_
      with_reducible rfl
    refine rg_mem (fun u => ∃ A c, u = .slice A p.length c : Value → Prop) (fun u w => NestF M 2 pairL w (u 1).v p : (Nat → GV) → World → Prop) (fun _ => Ext) rfl rfl rfl rfl (by kernel_rfl) (by kernel_rfl) (fun w hS hN R hR => ?_) ?_
    · obtain ⟨hS, hM, hK⟩ := hS
      have HR := Lib.hid hR
      clear hR
      (try clear hN)
      go_simp
      refine givesM_call ((scloneProg_any _ p w (H.out.ext hS) H12.out.1 H12.out.2).mono ?_)
      rintro e w' ⟨A2, c2, rfl, hn2, hx2⟩
      exact ⟨_, rfl, HR.out _ _ ⟨_, _, rfl⟩ ⟨_, Nat.le_refl _, hn2.monoB hM (Nat.le_refl _)⟩ hx2⟩
    rintro u1 s1 t1 ⟨A1, c1, rfl⟩
    refine rg_pure (v := ?_) rfl (by kernel_rfl) (by kernel_rfl) (fun w hS hN => ?_) ?_
    rotate_left 1
    · obtain ⟨hS, hM, hK⟩ := hS
      clear hN
      go_simp
      refine givesP_mk ?_
      with_reducible rfl
    refine rg_mem (fun u => ∃ x, u = .slice (some ⟨x, 0, none⟩) 1 1 : Value → Prop) (fun u w => HasB M 50 #[.int .i64 0, .int .i64 0, .int .i64 1, .int .i64 0, .int .i64 0] 1 w (u 3).v : (Nat → GV) → World → Prop) (fun _ => Ext) rfl rfl rfl rfl (by kernel_rfl) (by kernel_rfl) (fun w hS hN R hR => ?_) ?_
    · obtain ⟨hS, hM, hK⟩ := hS
      have HR := Lib.hid hR
      clear hR
      (try clear hN)
      go_simp
      exact givesM_val (HR.out _ _ ⟨_, rfl⟩ ⟨_, rfl, hM, blk_new w _⟩ ((Ext.refl w).alloc _))
    rintro u3 s3 t3 ⟨x3, rfl⟩
    refine rg_mem (fun u => ∃ x, u = .slice (some ⟨x, 0, none⟩) 8 8 : Value → Prop) (fun u w => HasB M 59 (madeCells #[.int .i64 0, .int .i64 0, .int .i64 0, .int .i64 0, .int .i64 0, .int .i64 0, .int .i64 0, .int .i64 0, .int .i64 0, .int .i64 0, .int .i64 0, .int .i64 0, .int .i64 0] 104) 8 w (u 4).v : (Nat → GV) → World → Prop) (fun _ => Ext) rfl rfl rfl rfl (by kernel_rfl) (by kernel_rfl) (fun w hS hN R hR => ?_) ?_
    · obtain ⟨hS, hM, hK⟩ := hS
      have HR := Lib.hid hR
      clear hR
      have hmk4 := make_ps w
      (try clear hN)
      go_simp
      exact givesM_val (HR.out _ _ ⟨_, rfl⟩ ⟨_, rfl, hM, blk_new w _⟩ ((Ext.refl w).alloc _))
    rintro u4 s4 t4 ⟨x4, rfl⟩
    refine rg_mem (fun u => ∃ x, u = .slice (some ⟨x, 0, none⟩) 1 1 : Value → Prop) (fun u w => HasB M 3 #[.int .i64 1] 1 w (u 5).v : (Nat → GV) → World → Prop) (fun _ => Ext) rfl rfl rfl rfl (by kernel_rfl) (by kernel_rfl) (fun w hS hN R hR => ?_) ?_
    · obtain ⟨hS, hM, hK⟩ := hS
      have HR := Lib.hid hR
      clear hR
      (try clear hN)
      go_simp
      exact givesM_val (HR.out _ _ ⟨_, rfl⟩ ⟨_, rfl, hM, blk_new w _⟩ ((Ext.refl w).alloc _))
    rintro u5 s5 t5 ⟨x5, rfl⟩
    refine rg_pure (v := ?_) rfl (by kernel_rfl) (by kernel_rfl) (fun w hS hN => ?_) ?_
    rotate_left 1
    · obtain ⟨hS, hM, hK⟩ := hS
      clear hN
      go_simp
      refine givesP_mk ?_
      with_reducible rfl
    refine rg_pure (v := ?_) rfl (by kernel_rfl) (by kernel_rfl) (fun w hS hN => ?_) ?_
    rotate_left 1
    · obtain ⟨hS, hM, hK⟩ := hS
      clear hN
      go_simp
      refine givesP_mk ?_
      with_reducible rfl
    refine rg_mem (fun u => u = undef : Value → Prop) (fun u w => w.heap[rb]? = some (.cells #[(u 1).v, (u 3).v, (u 4).v, .slice none 0 0, (u 5).v, .int .i64 0, .int .i64 0, .int .i64 0, .int .i64 0, .slice none 0 0, .slice none 0 0, .slice none 0 0, .slice none 0 0, .slice none 0 0, .int .i64 0, .int .i64 n] 32 (0, 0)) : (Nat → GV) → World → Prop) (fun _ w w2 => Upd (rb) w w2 ∧ (fun w => ∃ x : StH × St, w.heap[rb]? = some (.cells (stC x.1 x.2) 32 (0, 0)) : World → Prop) w2) rfl rfl rfl rfl (by kernel_rfl) (by kernel_rfl) (fun w hS hN R hR => ?_) ?_
    · obtain ⟨hS, hM, hK⟩ := hS
      have HR := Lib.hid hR
      clear hR
      obtain ⟨x, hx⟩ := hK
      have HXK := Lib.hid hx
      clear hx hN
      refine givesM_store 32 _ _ rfl rb 0 (by go_simp) (stL (StH.made A1 c1 x3 x4 x5) (St.made p n)) (by go_simp; rfl) (there_row HXK.out (Nat.le_refl 16)) (by kernel_rfl) (stL_one _ _) ?_
      exact HR.out _ _ rfl (setCells_at (stL x.1 x.2) (stL (StH.made A1 c1 x3 x4 x5) (St.made p n)) rfl HXK.out) ⟨setCells_upd _ _ _ _, ⟨(_, _), setCells_at (stL x.1 x.2) (stL (StH.made A1 c1 x3 x4 x5) (St.made p n)) rfl HXK.out⟩⟩
    rintro u8 s8 t8 rfl
    refine rg_pure (v := ?_) rfl (by kernel_rfl) (by kernel_rfl) (fun w hS hN => ?_) ?_
    rotate_left 1
    · obtain ⟨hS, hM, hK⟩ := hS
      clear hN
      go_simp
      refine givesP_mk ?_
      with_reducible rfl
    refine rg_done rfl (Nat.le_of_ble_eq_true (by kernel_rfl)) ?_
    intro w8 hS hT
    have k1 : NestF M 2 pairL w8 (.slice A1 p.length c1) p := hT (1, ⟨.slice A1 p.length c1, s1, t1⟩) (by simp)
    have k3 : HasB M 50 #[.int .i64 0, .int .i64 0, .int .i64 1, .int .i64 0, .int .i64 0] 1 w8 (.slice (some ⟨x3, 0, none⟩) 1 1) := hT (3, ⟨.slice (some ⟨x3, 0, none⟩) 1 1, s3, t3⟩) (by simp)
    have k4 : HasB M 59 (madeCells #[.int .i64 0, .int .i64 0, .int .i64 0, .int .i64 0, .int .i64 0, .int .i64 0, .int .i64 0, .int .i64 0, .int .i64 0, .int .i64 0, .int .i64 0, .int .i64 0, .int .i64 0] 104) 8 w8 (.slice (some ⟨x4, 0, none⟩) 8 8) := hT (4, ⟨.slice (some ⟨x4, 0, none⟩) 8 8, s4, t4⟩) (by simp)
    have k5 : HasB M 3 #[.int .i64 1] 1 w8 (.slice (some ⟨x5, 0, none⟩) 1 1) := hT (5, ⟨.slice (some ⟨x5, 0, none⟩) 1 1, s5, t5⟩) (by simp)
    have k8 : w8.heap[rb]? = some (.cells (stC (StH.made A1 c1 x3 x4 x5) (St.made p n)) 32 (0, 0)) := hT (8, ⟨undef, s8, t8⟩) (by simp)
    have HOK : Hid (StOk w8 (StH.made A1 c1 x3 x4 x5) (St.made p n)) := Lib.hid (by
      obtain ⟨_, h3, _, h3'⟩ := k3
      obtain ⟨_, h4, _, h4'⟩ := k4
      obtain ⟨_, h5, _, h5'⟩ := k5
      obtain ⟨H1, _, h1⟩ := k1
      simp only [Value.slice.injEq, Option.some.injEq, Addr.mk.injEq, and_true] at h3 h4 h5
      subst h3 h4 h5
      exact StOk.made h1.nest h3' h4' h5')
    have HX8 := Lib.hid hS.1
    have HRZ := Lib.hid k8
    clear k1 k3 k4 k5 k8 hS hT hmk hK3 hX3
    go_simp
    go_wp2
    refine bodyPost_cell_tmp rfl rb _ _ _ _ rfl HRZ.out Try.underlying32 rfl (by kernel_rfl) (.int .i64 0) rfl rfl ?_
    rw [HN.out]
    exact ⟨StH.made A1 c1 x3 x4 x5, rfl, HOK.out, HX8.out⟩
end Go.Proofs.Ytbcclhahpcbadaa
/-
  Structs with structs and arrays in them compared, field by field. No function of the program is named.
-/
set_option linter.unusedVariables false
set_option linter.unusedSimpArgs false
namespace Go.Proofs.Ytbcclhahpcbadaa
open Go.RowKit

section
variable {P : Program}
theorem run_part_agg {e : TypeId} {d : TypeDesc} {i : TypeInfo} (hu : P.underlying e = some d) (hd : d.isRow = true) (hi : P.info? e = some i) (xs : Array Value) (off : Nat) (w : World) : (part e xs off).run P w = .ok (.agg (xs.extract off (off + P.cellsOf e))) w := by
  cases d <;> first | (simp [TypeDesc.isRow] at hd; done) | simp [part, isAgg, run_underlying hu, run_sizeOf w hi]
theorem run_part_aggN {e : TypeId} {d : TypeDesc} {i : TypeInfo} (n : Nat) (hc : P.cellsOf e = n) (hu : P.underlying e = some d) (hd : d.isRow = true) (hi : P.info? e = some i) (xs : Array Value) (off : Nat) (w : World) : (part e xs off).run P w = .ok (.agg (xs.extract off (off + n))) w := by
  subst hc
  exact run_part_agg hu hd hi xs off w
theorem run_eqFields_all (d : Nat) (xs ys : Array Value) (R : Nat → Bool) (w : World) : ∀ fs : List Field, (∀ f ∈ fs, f.name ≠ "_" ∧ ∃ a b, (part f.type xs f.offset).run P w = .ok a w ∧ (part f.type ys f.offset).run P w = .ok b w ∧ (Op.equalIn d f.type a b).run P w = .ok (R f.offset) w) →
    (Op.eqFields d xs ys fs).run P w = .ok (fs.all fun f => R f.offset) w
  | [], _ => by simp [Op.eqFields]
  | f :: fs, h => by
    obtain ⟨hn, a, b, p1, p2, p3⟩ := h f (by simp)
    have ih := run_eqFields_all d xs ys R w fs fun g hg => h g (by simp [hg])
    simp only [Op.eqFields, hn, ne_eq, not_false_eq_true, if_true, Sem.run_bind, p1, p2, p3, Result.andThen_ok, List.all_cons]
    cases hr : R f.offset with
    | false => simp
    | true => simpa using ih
/-- What a struct is told by: its fields' types and places. -/
def FieldsAre (P : Program) (t : TypeId) (fs : List (TypeId × Nat)) : Bool := !P.stoodInHeld t && (P.fieldsOf t).toList.all (fun e => e.name != "_") && (P.fieldsOf t).toList.map (fun e => (e.type, e.offset)) == fs
theorem run_eqStruct {t : TypeId} (ht : P.underlying t = some (.struct (P.fieldsOf t))) (fs : List (TypeId × Nat)) (hs : FieldsAre P t fs = true) (d : Nat) (xs ys : Array Value) (R : Nat → Bool) (w : World)
    (h : ∀ f ∈ fs, ∃ a b, (part f.1 xs f.2).run P w = .ok a w ∧ (part f.1 ys f.2).run P w = .ok b w ∧ (Op.equalIn d f.1 a b).run P w = .ok (R f.2) w) : (Op.equalIn (d + 1) t (.agg xs) (.agg ys)).run P w = .ok (fs.all fun f => R f.2) w := by
  unfold FieldsAre at hs
  simp only [Bool.and_eq_true, Bool.not_eq_true', beq_iff_eq] at hs
  obtain ⟨⟨h1, h2⟩, h3⟩ := hs
  rw [run_equalIn_struct w d _ _ _ ht h1, run_eqFields_all d xs ys R w _ fun f hf => by
    have hn := List.all_eq_true.1 h2 f hf
    refine ⟨by simpa using hn, ?_⟩
    exact h (f.type, f.offset) (by rw [← h3]; exact List.mem_map_of_mem hf)]
  congr 1
  rw [← h3, List.all_map]
  rfl
theorem run_eqItems_all (d : Nat) (e : TypeId) (m : Nat) (xs ys : Array Value) (R : Nat → Bool) (w : World) : ∀ is : List Nat, (∀ i ∈ is, ∃ a b, (part e xs (i * m)).run P w = .ok a w ∧ (part e ys (i * m)).run P w = .ok b w ∧ (Op.equalIn d e a b).run P w = .ok (R i) w) →
    (Op.eqItems d e m xs ys is).run P w = .ok (is.all R) w
  | [], _ => by simp [Op.eqItems]
  | i :: is, h => by
    obtain ⟨a, b, p1, p2, p3⟩ := h i (by simp)
    have ih := run_eqItems_all d e m xs ys R w is fun j hj => h j (by simp [hj])
    simp only [Op.eqItems, Sem.run_bind, p1, p2, p3, Result.andThen_ok, List.all_cons]
    cases hr : R i with
    | false => simp
    | true => simpa using ih
/-- Arrays of n numbers. -/
theorem run_eqArr {t ti : TypeId} (n : Nat) (ht : P.underlying t = some (.array n ti)) (hi : P.underlying ti = some (.int .i64)) (hp : P.plainKey ti = true) (hc : P.cellsOf ti = 1) (d : Nat) (f g : List Int) (hf : f.length = n) (hg : g.length = n) (w : World) :
    (Op.equalIn (d + 2) t (.agg (f.map (Value.int .i64)).toArray) (.agg (g.map (Value.int .i64)).toArray)).run P w = .ok (decide (f = g)) w := by
  obtain ⟨i, hii⟩ := info_of_underlying hi
  rw [run_equalIn_array w (d + 1) _ _ ht hii, hc, run_eqItems_all (d + 1) ti 1 _ _ (fun j => f.getD j 0 == g.getD j 0) w _ fun j hj => by
    have hj' := List.mem_range.1 hj
    refine ⟨.int .i64 (f.getD j 0), .int .i64 (g.getD j 0), run_part_plain w hp ?_, run_part_plain w hp ?_, run_equalIn_int w d ti .i64 .i64 _ _ hi⟩
    · rw [Nat.mul_one, List.getElem?_toArray, List.getElem?_map, List.getElem?_eq_getElem (by omega)]; simp [List.getD, List.getElem?_eq_getElem (show j < f.length by omega)]
    · rw [Nat.mul_one, List.getElem?_toArray, List.getElem?_map, List.getElem?_eq_getElem (by omega)]; simp [List.getD, List.getElem?_eq_getElem (show j < g.length by omega)]]
  congr 1
  rw [Bool.eq_iff_iff, List.all_eq_true, decide_eq_true_eq]
  constructor
  · intro h
    apply List.ext_getElem (by omega)
    intro i hi1 hi2
    have := h i (List.mem_range.2 (by omega))
    simpa [List.getD, List.getElem?_eq_getElem hi1, List.getElem?_eq_getElem hi2] using this
  · rintro rfl i _
    simp
end
end Go.Proofs.Ytbcclhahpcbadaa
/-
  Structs of a state compared.
-/
set_option linter.unusedVariables false
set_option linter.unusedSimpArgs false
namespace Go.Proofs.Ytbcclhahpcbadaa
open Go.RowKit

theorem run_eqGr (a b c d e a' b' c' d' e' : Int) (w : World) : (Op.equalIn 10000 50 (.agg #[.int .i64 a, .int .i64 b, .int .i64 c, .int .i64 d, .int .i64 e]) (.agg #[.int .i64 a', .int .i64 b', .int .i64 c', .int .i64 d', .int .i64 e'])).run Try.prog w = .ok (decide ([a, b, c, d, e] = [a', b', c', d', e'])) w :=
  run_eqInts (ti := 3) Try.underlying3 (by kernel_rfl) (by kernel_rfl) 5 (by kernel_rfl) [a, b, c, d, e] [a', b', c', d', e'] rfl rfl w
theorem run_eqM (a b a' b' : Int) (w : World) : (Op.equalIn 10000 77 (.agg #[.int .i64 a, .int .i64 b]) (.agg #[.int .i64 a', .int .i64 b'])).run Try.prog w = .ok (decide ([a, b] = [a', b'])) w :=
  run_eqInts (ti := 3) Try.underlying3 (by kernel_rfl) (by kernel_rfl) 2 (by kernel_rfl) [a, b] [a', b'] rfl rfl w
theorem run_eqInstr (a b a' b' : Int) (w : World) : (Op.equalIn 10000 63 (.agg #[.int .i64 a, .int .i64 b]) (.agg #[.int .i64 a', .int .i64 b'])).run Try.prog w = .ok (decide ([a, b] = [a', b'])) w :=
  run_eqInts (ti := 3) Try.underlying3 (by kernel_rfl) (by kernel_rfl) 2 (by kernel_rfl) [a, b] [a', b'] rfl rfl w
theorem run_eqPlace (a b a' b' : Int) (w : World) : (Op.equalIn 10000 43 (.agg #[.int .i64 a, .int .i64 b]) (.agg #[.int .i64 a', .int .i64 b'])).run Try.prog w = .ok (decide ([a, b] = [a', b'])) w :=
  run_eqInts (ti := 3) Try.underlying3 (by kernel_rfl) (by kernel_rfl) 2 (by kernel_rfl) [a, b] [a', b'] rfl rfl w
theorem run_eq4 (a0 a1 a2 a3 b0 b1 b2 b3 : Int) (w : World) : (Op.equalIn 10000 28 (.agg #[.int .i64 a0, .int .i64 a1, .int .i64 a2, .int .i64 a3]) (.agg #[.int .i64 b0, .int .i64 b1, .int .i64 b2, .int .i64 b3])).run Try.prog w = .ok (decide ([a0, a1, a2, a3] = [b0, b1, b2, b3])) w :=
  run_eqArr 4 Try.underlying28 Try.underlying3 (by kernel_rfl) (by kernel_rfl) 9998 [a0, a1, a2, a3] [b0, b1, b2, b3] rfl rfl w
set_option maxRecDepth 100000 in
theorem run_eqRi (d : Nat) (a0 a1 a2 a3 a4 a5 a6 a7 a8 a9 b0 b1 b2 b3 b4 b5 b6 b7 b8 b9 : Int) (w : World) : (Op.equalIn (d + 3) 57 (.agg #[.int .i64 a0, .int .i64 a1, .int .i64 a2, .int .i64 a3, .int .i64 a4, .int .i64 a5, .int .i64 a6, .int .i64 a7, .int .i64 a8, .int .i64 a9]) (.agg #[.int .i64 b0, .int .i64 b1, .int .i64 b2, .int .i64 b3, .int .i64 b4, .int .i64 b5, .int .i64 b6, .int .i64 b7, .int .i64 b8, .int .i64 b9])).run Try.prog w = .ok (decide ([a0, a1, a2, a3, a4, a5, a6, a7, a8, a9] = [b0, b1, b2, b3, b4, b5, b6, b7, b8, b9])) w := by
  obtain ⟨i, hi⟩ := info_of_underlying Try.underlying55
  have c8 : Try.prog.cellsOf 55 = 8 := by kernel_rfl
  have p1 := run_part_aggN 8 c8 Try.underlying55 rfl hi #[.int .i64 a0, .int .i64 a1, .int .i64 a2, .int .i64 a3, .int .i64 a4, .int .i64 a5, .int .i64 a6, .int .i64 a7, .int .i64 a8, .int .i64 a9] 0 w
  have p2 := run_part_aggN 8 c8 Try.underlying55 rfl hi #[.int .i64 b0, .int .i64 b1, .int .i64 b2, .int .i64 b3, .int .i64 b4, .int .i64 b5, .int .i64 b6, .int .i64 b7, .int .i64 b8, .int .i64 b9] 0 w
  refine (run_eqStruct (P := Try.prog) Try.underlying57 [(55, 0), (3, 8), (3, 9)] (by kernel_rfl) (d + 2) _ _ (fun o => if o = 0 then decide ([a0, a1, a2, a3, a4, a5, a6, a7] = [b0, b1, b2, b3, b4, b5, b6, b7]) else if o = 8 then a8 == b8 else a9 == b9) w fun f hf => by
    simp only [List.mem_cons, List.not_mem_nil, or_false] at hf
    rcases hf with rfl | rfl | rfl
    · exact ⟨_, _, p1, p2, run_eqArr 8 Try.underlying55 Try.underlying3 (by kernel_rfl) (by kernel_rfl) d [a0, a1, a2, a3, a4, a5, a6, a7] [b0, b1, b2, b3, b4, b5, b6, b7] rfl rfl w⟩
    · exact ⟨_, _, run_part_plain w (by kernel_rfl) rfl, run_part_plain w (by kernel_rfl) rfl, run_equalIn_int w _ _ .i64 .i64 _ _ Try.underlying3⟩
    · exact ⟨_, _, run_part_plain w (by kernel_rfl) rfl, run_part_plain w (by kernel_rfl) rfl, run_equalIn_int w _ _ .i64 .i64 _ _ Try.underlying3⟩).trans ?_
  congr 1
  rw [Bool.eq_iff_iff]
  simp [and_assoc]
set_option maxRecDepth 100000 in
theorem run_eqPr (a0 a1 a2 a3 a4 a5 a6 a7 a8 a9 a10 a11 a12 b0 b1 b2 b3 b4 b5 b6 b7 b8 b9 b10 b11 b12 : Int) (w : World) : (Op.equalIn 10000 59 (.agg #[.int .i64 a0, .int .i64 a1, .int .i64 a2, .int .i64 a3, .int .i64 a4, .int .i64 a5, .int .i64 a6, .int .i64 a7, .int .i64 a8, .int .i64 a9, .int .i64 a10, .int .i64 a11, .int .i64 a12]) (.agg #[.int .i64 b0, .int .i64 b1, .int .i64 b2, .int .i64 b3, .int .i64 b4, .int .i64 b5, .int .i64 b6, .int .i64 b7, .int .i64 b8, .int .i64 b9, .int .i64 b10, .int .i64 b11, .int .i64 b12])).run Try.prog w = .ok (decide ([a0, a1, a2, a3, a4, a5, a6, a7, a8, a9, a10, a11, a12] = [b0, b1, b2, b3, b4, b5, b6, b7, b8, b9, b10, b11, b12])) w := by
  obtain ⟨i, hi⟩ := info_of_underlying Try.underlying57
  have c8 : Try.prog.cellsOf 57 = 10 := by kernel_rfl
  have p1 := run_part_aggN 10 c8 Try.underlying57 rfl hi #[.int .i64 a0, .int .i64 a1, .int .i64 a2, .int .i64 a3, .int .i64 a4, .int .i64 a5, .int .i64 a6, .int .i64 a7, .int .i64 a8, .int .i64 a9, .int .i64 a10, .int .i64 a11, .int .i64 a12] 2 w
  have p2 := run_part_aggN 10 c8 Try.underlying57 rfl hi #[.int .i64 b0, .int .i64 b1, .int .i64 b2, .int .i64 b3, .int .i64 b4, .int .i64 b5, .int .i64 b6, .int .i64 b7, .int .i64 b8, .int .i64 b9, .int .i64 b10, .int .i64 b11, .int .i64 b12] 2 w
  refine (run_eqStruct (P := Try.prog) Try.underlying59 [(3, 0), (3, 1), (57, 2), (3, 12)] (by kernel_rfl) 9999 _ _ (fun o => if o = 0 then a0 == b0 else if o = 1 then a1 == b1 else if o = 2 then decide ([a2, a3, a4, a5, a6, a7, a8, a9, a10, a11] = [b2, b3, b4, b5, b6, b7, b8, b9, b10, b11]) else a12 == b12) w fun f hf => by
    simp only [List.mem_cons, List.not_mem_nil, or_false] at hf
    rcases hf with rfl | rfl | rfl | rfl
    · exact ⟨_, _, run_part_plain w (by kernel_rfl) rfl, run_part_plain w (by kernel_rfl) rfl, run_equalIn_int w _ _ .i64 .i64 _ _ Try.underlying3⟩
    · exact ⟨_, _, run_part_plain w (by kernel_rfl) rfl, run_part_plain w (by kernel_rfl) rfl, run_equalIn_int w _ _ .i64 .i64 _ _ Try.underlying3⟩
    · exact ⟨_, _, p1, p2, run_eqRi 9996 a2 a3 a4 a5 a6 a7 a8 a9 a10 a11 b2 b3 b4 b5 b6 b7 b8 b9 b10 b11 w⟩
    · exact ⟨_, _, run_part_plain w (by kernel_rfl) rfl, run_part_plain w (by kernel_rfl) rfl, run_equalIn_int w _ _ .i64 .i64 _ _ Try.underlying3⟩).trans ?_
  congr 1
  rw [Bool.eq_iff_iff]
  simp [and_assoc]
end Go.Proofs.Ytbcclhahpcbadaa
