/-
  The walk of the statement InternFrames.
-/
import Derived.Test.YthkalaohaholaaaLg
import Derived.Test.YthkalaohaholaaaIu
import Derived.Test.YthkalaohaholaaaIw
import Derived.Test.YthkalaohaholaaaIzi
import Derived.Test.YthkalaohaholaaaRz
set_option linter.unusedVariables false
set_option linter.unusedSimpArgs false
namespace Go.Proofs.Ythkalaohaholaaa
open Go.RowKit Go.Maps

/-- A table that a call of a drawn region made, all of it in blocks of that call's own; a number. -/
def TabI (t : Tb) (n : Int) (u : GV) (w : World) : Prop := ∃ v, u.v = .tuple #[v, .int .i64 n] ∧ TabIn u.s u.t w v t
theorem TabIn.but {L H : Nat} {S : Nat → Prop} {w w' : World} {v : Value} {t : Tb} (h : TabIn L H w v t) (k : But S w w') (hs : ∀ b, L ≤ b → b < H → ¬ S b) : TabIn L H w' v t := by
  obtain ⟨sv, kv, rfl, h1, h2⟩ := h
  exact ⟨sv, kv, rfl, h1.but k hs, h2.but k hs⟩
theorem TabI.ext {t : Tb} {n : Int} {u : GV} {w w' : World} (h : TabI t n u w) (hx : Ext w w') : TabI t n u w' := by
  obtain ⟨v, h1, h2⟩ := h
  exact ⟨v, h1, h2.but (S := fun _ => False) (But.ext hx) fun _ _ _ h => h⟩
theorem TabI.far {t : Tb} {n : Int} {u : GV} {w0 w w' : World} {m : Nat} {gs : List GV} (h : TabI t n u w) (hc : ChgIn w0 m gs w w') (ha : ∀ g ∈ gs, g.apart u) : TabI t n u w' := by
  obtain ⟨v, h1, h2⟩ := h
  refine ⟨v, h1, h2.but (S := fun b => ¬ (u.s ≤ b ∧ b < u.t)) ⟨hc.new.os.trans hc.old.os.symm, hc.new.tape.trans hc.old.tape.symm, hc.new.output.trans hc.old.output.symm, hc.size, fun i hi hn => ?_⟩ fun b h3 h4 hh => hh ⟨h3, h4⟩⟩
  have hin := Classical.not_not.1 hn
  refine hc.same i hi fun g hg => ?_
  have := ha g hg
  unfold GV.apart at this
  omega
theorem cellsOf2b {w : World} {g : Nat} {T : TypeId} {cs : Array Value} (hs : cs.size = 2) (h : w.heap[g]? = some (.cells cs T (0, 0))) : ∃ d0 d1, cs = #[d0, d1] ∧ w.cell? ⟨g, 0, none⟩ = some d0 ∧ w.cell? ⟨g, 1, none⟩ = some d1 := by
  obtain ⟨l⟩ := cs
  match l, hs with
  | [c0, c1], _ => exact ⟨c0, c1, rfl, blk_cell h 0 _ rfl, blk_cell h 1 _ rfl⟩
theorem ChgIn.set2b {w0 w : World} {g : Nat} {u : GV} {T : TypeId} {cs : Array Value} (hs : cs.size = 2) (h0 : Ext w0 w) (hg : w0.heap.size ≤ g) (hi : u.s ≤ g ∧ g < u.t) (hb : w.heap[g]? = some (.cells cs T (0, 0))) (d0 d1 : Value) :
    ChgIn w0 0 [u] w ((w.setCell ⟨g, 0, none⟩ d0).setCell ⟨g, 1, none⟩ d1) := by
  have hu := upd2 g w d0 d1
  obtain ⟨l⟩ := cs
  match l, hs with
  | [c0, c1], _ =>
  refine ⟨h0, h0.upd hu hg, hu.sz, fun b hb' hgs => hu.block b hb' fun he => ?_, fun b ds ty hbc => ?_⟩
  · injection he with he
    subst he
    have := hgs u (by simp)
    omega
  · by_cases hbg : b = g
    · subst hbg
      rw [hb] at hbc
      cases hbc
      exact ⟨_, set2_at hb _ _, rfl, rfl⟩
    · exact ⟨ds, hu.blk hbc hbg, rfl, rfl⟩
def HasT2 (w0 : World) (n : Int) (w : World) (u v : GV) : Prop := ∃ tv : Value, u.v = .tuple #[tv, .int .i64 n] ∧ HasN 25 w0 w v tv.cells
theorem HasT2.ext {w0 w w' : World} {n : Int} {u v : GV} (h : HasT2 w0 n w u v) (hx : Ext w w') : HasT2 w0 n w' u v := by
  obtain ⟨tv, h1, h2⟩ := h
  exact ⟨tv, h1, h2.ext hx⟩
set_option maxRecDepth 100000 in
set_option maxHeartbeats 16000000 in
theorem walk_InternFrames (v : Value) (t : Tb) (u : Value) (s : ByteArray) (l : List (ByteArray × Int)) (n : Int) (w : World) (ht : TabAt w v t) (hi : TbIn t) (ha : AskAt w u s l n) (hai : AskIn s l n) :
    Calls Try.prog 7 #[v, u] w fun e w' => e = .returned (.bool true) ∧ Ext w w' := by
  obtain ⟨A, c, B, d, rfl, h1, h2⟩ := ht.two
  obtain ⟨C, q, rfl, hl⟩ := ha
  generalize ha : t.ss.length = a at *
  generalize hb : t.ks.length = b at *
  obtain ⟨wS, hw⟩ : ∃ wS, (w.alloc (.cells #[.slice A a c, .slice B b d] 25)).alloc (.cells #[.string s, .slice C l.length q, .int .i64 n] 28) = wS := ⟨_, rfl⟩
  obtain ⟨p, hp⟩ : ∃ p, w.heap.size = p := ⟨_, rfl⟩
  have HXW : Hid (Ext w wS) := Lib.hid (by rw [← hw]; exact ((Ext.refl w).alloc _).alloc _)
  have HBT : Hid (wS.heap[p]? = some (.cells #[.slice A a c, .slice B b d] 25 (0, 0))) := Lib.hid (by rw [← hw, ← hp]; exact blk_alloc (blk_new w _) _)
  have HBX : Hid (wS.heap[p + 1]? = some (.cells #[.string s, .slice C l.length q, .int .i64 n] 28 (0, 0))) := Lib.hid (by
    rw [← hw]
    have := blk_new (w.alloc (.cells #[.slice A a c, .slice B b d] 25)) (.cells #[.string s, .slice C l.length q, .int .i64 n] 28)
    rw [show (w.alloc (.cells #[.slice A a c, .slice B b d] 25)).heap.size = p + 1 by simp [hp]] at this
    exact this)
  have HC0 : Hid (∀ w', Ext wS w' → w'.cell? ⟨w.heap.size, 0, none⟩ = some (.slice A a c) ∧ w'.cell? ⟨w.heap.size, 1, none⟩ = some (.slice B b d) ∧ w'.cell? ⟨w.heap.size + 1, 0, none⟩ = some (.string s) ∧ w'.cell? ⟨w.heap.size + 1, 1, none⟩ = some (.slice C l.length q)) := Lib.hid fun w' hx => by
    rw [hp]
    exact ⟨blk_cell (hx.blk HBT.out) 0 _ rfl, blk_cell (hx.blk HBT.out) 1 _ rfl, blk_cell (hx.blk HBX.out) 0 _ rfl, blk_cell (hx.blk HBX.out) 1 _ rfl⟩
  have HT := Lib.hid (ht.ext HXW.out)
  have HL := Lib.hid (hl.ext HXW.out)
  have HTI := Lib.hid hi
  have HAI := Lib.hid hai
  have HWS := Lib.hid hw
  have HAL := Lib.hid ha
  have HBL := Lib.hid hb
  clear ht hi hai hl h1 h2 hw hp ha hb
  obtain ⟨t0, t1, x0, x1⟩ := HC0.out wS (Ext.refl _)
  go_enter Try.func7, Try.ntmps7
  go_wp2_with fail
  rw [HWS.out]
  refine (ifixed_yes _).mono ?_
  rintro e w1 ⟨rfl, hx1⟩
  have HX1 : Hid (Ext wS w1) := Lib.hid hx1
  clear hx1 t0 t1 x0 x1
  obtain ⟨t0, t1, x0, x1⟩ := HC0.out w1 HX1.out
  cases h1 : t.small with
  | false =>
    go_wp2_with fail
    refine (rsmall_k _ t _ _ h1 (HT.out.ext HX1.out) HTI.out).mono ?_
    rintro e w2 ⟨rfl, hx2⟩
    have HX2 : Hid (Ext wS w2) := Lib.hid (HX1.out.trans hx2)
    clear hx2 t0 t1 x0 x1
    obtain ⟨t0, t1, x0, x1⟩ := HC0.out w2 HX2.out
    go_wp2_with fail
    refine (ifixed_yes _).mono ?_
    rintro e w3 ⟨rfl, hx3⟩
    go_wp2
    go_ret
    exact ⟨rfl, HXW.out.trans (HX2.out.trans hx3)⟩
  | true =>
    go_wp2_with fail
    refine (rsmall_k _ t _ _ h1 (HT.out.ext HX1.out) HTI.out).mono ?_
    rintro e w2 ⟨rfl, hx2⟩
    have HX2 : Hid (Ext wS w2) := Lib.hid (HX1.out.trans hx2)
    clear hx2 t0 t1 x0 x1
    obtain ⟨t0, t1, x0, x1⟩ := HC0.out w2 HX2.out
    have HFN := Lib.hid (Tb.fine_of HTI.out h1)
    cases h2 : t.may with
    | false =>
      go_wp2_with fail
      refine (rtmay_k _ t _ _ h2 (HT.out.ext HX2.out) HFN.out).mono ?_
      rintro e w3 ⟨rfl, hx3⟩
      have HX3 : Hid (Ext wS w3) := Lib.hid (HX2.out.trans hx3)
      clear hx3 t0 t1 x0 x1
      obtain ⟨t0, t1, x0, x1⟩ := HC0.out w3 HX3.out
      go_wp2_with fail
      refine (ifixed_yes _).mono ?_
      rintro e w4 ⟨rfl, hx4⟩
      go_wp2
      go_ret
      exact ⟨rfl, HXW.out.trans (HX3.out.trans hx4)⟩
    | true =>
      go_wp2_with fail
      refine (rtmay_k _ t _ _ h2 (HT.out.ext HX2.out) HFN.out).mono ?_
      rintro e w3 ⟨rfl, hx3⟩
      have HX3 : Hid (Ext wS w3) := Lib.hid (HX2.out.trans hx3)
      clear hx3 t0 t1 x0 x1
      obtain ⟨t0, t1, x0, x1⟩ := HC0.out w3 HX3.out
      cases h3 : Tb.few l with
      | false =>
        go_wp2_with fail
        refine (rfew_k _ l _ _ h3 (HL.out.ext HX3.out) HAI.out.len HAI.out.frames).mono ?_
        rintro e w4 ⟨rfl, hx4⟩
        have HX4 : Hid (Ext wS w4) := Lib.hid (HX3.out.trans hx4)
        clear hx4 t0 t1 x0 x1
        obtain ⟨t0, t1, x0, x1⟩ := HC0.out w4 HX4.out
        go_wp2_with fail
        refine (ifixed_yes _).mono ?_
        rintro e w5 ⟨rfl, hx5⟩
        go_wp2
        go_ret
        exact ⟨rfl, HXW.out.trans (HX4.out.trans hx5)⟩
      | true =>
        go_wp2_with fail
        refine (rfew_k _ l _ _ h3 (HL.out.ext HX3.out) HAI.out.len HAI.out.frames).mono ?_
        rintro e w4 ⟨rfl, hx4⟩
        have HX4 : Hid (Ext wS w4) := Lib.hid (HX3.out.trans hx4)
        clear hx4 t0 t1 x0 x1
        obtain ⟨t0, t1, x0, x1⟩ := HC0.out w4 HX4.out
        by_cases g5 : 20 < l.length
        · have g5i : (20 : Int) < ((l.length : Nat) : Int) := by omega
          go_wp2_with fail
          refine (ifixed_yes _).mono ?_
          rintro e w5 ⟨rfl, hx5⟩
          go_wp2
          go_ret
          exact ⟨rfl, HXW.out.trans (HX4.out.trans hx5)⟩
        have g5i : ¬ (20 : Int) < ((l.length : Nat) : Int) := by omega
        have HSM := Lib.hid (Tb.small_iff.1 h1)
        have HFL := Lib.hid (Tb.few_iff.1 h3)
        have HL20 : Hid (l.length ≤ 20) := Lib.hid (by omega)
        go_wp2_with fail
        refine (istk_q _ _ t l _ (HT.out.ext HX4.out) (HL.out.ext HX4.out) (by have := HSM.out.2.2.1; omega) (by have := HSM.out.2.2.2; omega) (by have := HFL.out.2; omega) (Tb.few_sz h3)).mono ?_
        rintro e v5 ⟨A5, k5, c5, B5, m5, d5, rfl, hk5, hm5, ht5, hx5⟩
        obtain ⟨w5, hu5⟩ : ∃ w5, v5.alloc (.cells #[.slice A5 k5 c5, .slice B5 m5 d5] 25) = w5 := ⟨_, rfl⟩
        obtain ⟨p5, hp5⟩ : ∃ p5, v5.heap.size = p5 := ⟨_, rfl⟩
        obtain ⟨n5, hn5⟩ : ∃ n5, (t.stk l).2 = n5 := ⟨_, rfl⟩
        have HR5 : Hid (w5.heap[p5]? = some (.cells #[.slice A5 k5 c5, .slice B5 m5 d5] 25 (0, 0))) := Lib.hid (by rw [← hu5, ← hp5]; exact blk_new v5 _)
        have HY5 : Hid (Ext w4 w5) := Lib.hid (by rw [← hu5]; exact hx5.alloc _)
        have HX5 : Hid (Ext wS w5) := Lib.hid (HX4.out.trans HY5.out)
        have HT5 := Lib.hid (show TabAt w5 (.agg #[.slice A5 k5 c5, .slice B5 m5 d5]) _ from by rw [← hu5]; exact ht5.ext ((Ext.refl v5).alloc _))
        have HU5 := Lib.hid hu5
        have HP5 := Lib.hid hp5
        have HN5 := Lib.hid hn5
        have HK5 := Lib.hid hm5
        rw [hn5]
        clear hn5
        clear hx5 hu5 hp5 hk5 hm5 ht5 t0 t1 x0 x1
        obtain ⟨t0, t1, x0, x1⟩ := HC0.out w5 HX5.out
        have r5 : w5.cell? ⟨v5.heap.size, 0, none⟩ = some (.slice A5 k5 c5) := by rw [HP5.out]; exact blk_cell HR5.out 0 _ rfl
        have z5 : w5.cell? ⟨v5.heap.size, 1, none⟩ = some (.slice B5 m5 d5) := by rw [HP5.out]; exact blk_cell HR5.out 1 _ rfl
        by_cases e5 : n5 = 0
        · subst e5
          go_wp2_with (rw [HU5.out])
          go_ret
          exact ⟨rfl, HXW.out.trans HX5.out⟩
        have f5 : (n5 == 0) = false := by simpa using e5
        have HNZ : Hid ((t.stk l).2 ≠ 0) := Lib.hid (by rw [HN5.out]; exact e5)
        have HMO := Lib.hid (Tb.stk_more HNZ.out HSM.out.2.2.1 HSM.out.2.2.2 HL20.out)
        have HCM : Hid ((t.stk l).1.may = true) := Lib.hid (by obtain ⟨_, _, fs, _, _, _, _, _, _, _, hm, _⟩ := Tb.stk_spec HNZ.out; exact hm)
        have HNAME : Hid (∀ f ∈ l, ∃ id : Int, 1 ≤ id ∧ (t.stk l).1.string f.1 = ((t.stk l).1, id)) := Lib.hid fun f hf => Tb.stk_name HNZ.out hf
        rw [HN5.out] at HMO
        generalize (t.stk l).1 = c1 at *
        have HCF := Lib.hid (Tb.fine_may HCM.out)
        have HC1 : Hid (c1.ss.length ≤ 100000 ∧ c1.ks.length ≤ 100000) := Lib.hid (by have := Tb.may_iff.1 HCM.out; omega)
        have HCA : Hid (∀ w', Ext w5 w' → w'.cell? ⟨v5.heap.size, 0, none⟩ = some (.slice A5 k5 c5) ∧ w'.cell? ⟨v5.heap.size, 1, none⟩ = some (.slice B5 m5 d5)) := Lib.hid fun w' hx => by
          rw [HP5.out]
          exact ⟨blk_cell (hx.blk HR5.out) 0 _ rfl, blk_cell (hx.blk HR5.out) 1 _ rfl⟩
        have HLF := Lib.hid (HL.out.ext HX5.out)
        clear HNZ e5 r5 z5
        go_wp2_with (rw [HU5.out])
        clear t0 t1 x0 x1
        go_loopw [7] (fun iv wr => ∃ k : Nat, k ≤ l.length ∧ iv = .int .i64 k ∧ Ext w5 wr) (fun iv _ => l.length - (intOf iv).toNat)
        case atStart => exact ⟨0, by omega, rfl, Ext.refl _⟩
        case round =>
          obtain ⟨k, hk, rfl, hx⟩ := hrel
          have HXR := Lib.hid hx
          clear hx
          obtain ⟨t0, t1, x0, x1⟩ := HC0.out wr (HX5.out.trans HXR.out)
          by_cases hlt : k < l.length
          · obtain ⟨f, hf⟩ : ∃ f, l[k]? = some f := ⟨_, List.getElem?_eq_getElem hlt⟩
            obtain ⟨id, hid1, hstr⟩ := HNAME.out f (List.mem_of_getElem? hf)
            have HSTR := Lib.hid hstr
            have HFS := Lib.hid (Tb.few_sz h3 f (List.mem_of_getElem? hf))
            obtain ⟨bf, of, hA, hbf, e0, -⟩ := fcs_get HLF.out hf
            subst hA
            obtain ⟨s1, ln⟩ := f
            have HEC : Hid (∀ v, Ext wr v → v.cell? ⟨bf, of + k * 2, none⟩ = some (.string s1)) := Lib.hid fun v hv => by
              rw [Below.cell (HXR.out.trans hv) (p := ⟨bf, of + k * 2, none⟩) hbf]
              exact e0
            clear hf hstr e0 hbf
            go_upto_region 9 with fail
            clear t0 t1 x0 x1
            have i0 : (0 : Int) ≤ (k : Int) := by omega
            have i1 : (k : Int) < (l.length : Int) := by omega
            refine region_rgw ([(7, (fun u => ∃ A k c B m d, u = .tuple #[.agg #[.slice A k c, .slice B m d], .int .i64 id] : Value → Prop), (fun u w => TabI c1 id (u 7) w : (Nat → GV) → World → Prop)), (11, (fun u => ∃ g, u = .pointer (some ⟨g, 0, none⟩) : Value → Prop), (fun u w => BoxN 25 2 wr w (u 11) : (Nat → GV) → World → Prop)), (12, (fun u => u = undef : Value → Prop), (fun u w => HasT2 wr id w (u 7) (u 11) : (Nat → GV) → World → Prop))]) (wr) ([(12, 0, [11])]) (by kernel_rfl) (by kernel_rfl) ?_ ?_ ?_ ?_
            · exact List.forall_mem_cons.2 ⟨List.forall_mem_cons.2 ⟨by kernel_rfl, List.forall_mem_nil _⟩, List.forall_mem_nil _⟩
            · exact List.forall_mem_cons.2 ⟨⟨⟨_, none, 0, 0, none, 0, 0, rfl⟩, fun u v w h ht => by show (fun u w => TabI c1 id (u 7) w : (Nat → GV) → World → Prop) v w; dsimp only; rw [← h 7 (.inl rfl) (by kernel_rfl)]; exact ht, fun u w w2 hx ht => ht.ext hx, List.forall_mem_cons.2 ⟨fun _ hp => by first | (intro u w w2 hap haq hc ht; (refine ht.far hc ?_; simpa using hap); done) | exact rg_vac hp (by kernel_rfl), List.forall_mem_nil _⟩⟩, List.forall_mem_cons.2 ⟨⟨⟨_, 0, rfl⟩, fun u v w h ht => by show (fun u w => BoxN 25 2 wr w (u 11) : (Nat → GV) → World → Prop) v w; dsimp only; rw [← h 11 (.inl rfl) (by kernel_rfl)]; exact ht, fun u w w2 hx ht => ht.ext hx, List.forall_mem_cons.2 ⟨fun _ hp => by first | (intro u w w2 hap haq hc ht; (exact ht.chg hc); done) | exact rg_vac hp (by kernel_rfl), List.forall_mem_nil _⟩⟩, List.forall_mem_cons.2 ⟨⟨⟨_, rfl⟩, fun u v w h ht => by show (fun u w => HasT2 wr id w (u 7) (u 11) : (Nat → GV) → World → Prop) v w; dsimp only; rw [← h 7 (.inr (by kernel_rfl)) (by kernel_rfl), ← h 11 (.inr (by kernel_rfl)) (by kernel_rfl)]; exact ht, fun u w w2 hx ht => ht.ext hx, List.forall_mem_cons.2 ⟨fun hne => absurd rfl hne, List.forall_mem_nil _⟩⟩, List.forall_mem_nil _⟩⟩⟩
            · first | assumption | exact Ext.refl _
            refine rg_pure (v := ?_) rfl (by kernel_rfl) (by kernel_rfl) (fun w hS hN => ?_) ?_
            rotate_left 1
            · obtain ⟨r0, r1⟩ := HCA.out w (HXR.out.trans hS)
              clear hN
              go_simp
              refine givesP_mk ?_
              with_reducible rfl
            refine rg_pure (v := ?_) rfl (by kernel_rfl) (by kernel_rfl) (fun w hS hN => ?_) ?_
            rotate_left 1
            · clear hN
              go_simp
              refine givesP_mk ?_
              with_reducible rfl
            refine rg_pure (v := ?_) rfl (by kernel_rfl) (by kernel_rfl) (fun w hS hN => ?_) ?_
            rotate_left 1
            · obtain ⟨t0, t1, x0, x1⟩ := HC0.out w (HX5.out.trans (HXR.out.trans hS))
              clear hN
              go_simp
              refine givesP_mk ?_
              with_reducible rfl
            refine rg_pure (v := ?_) rfl (by kernel_rfl) (by kernel_rfl) (fun w hS hN => ?_) ?_
            rotate_left 1
            · clear hN
              go_simp
              refine givesP_mk ?_
              with_reducible rfl
            refine rg_pure (v := ?_) rfl (by kernel_rfl) (by kernel_rfl) (fun w hS hN => ?_) ?_
            rotate_left 1
            · clear hN
              go_simp
              refine givesP_mk ?_
              with_reducible rfl
            refine rg_pure (v := ?_) rfl (by kernel_rfl) (by kernel_rfl) (fun w hS hN => ?_) ?_
            rotate_left 1
            · clear hN
              go_simp
              refine givesP_mk ?_
              with_reducible rfl
            refine rg_pure (v := ?_) rfl (by kernel_rfl) (by kernel_rfl) (fun w hS hN => ?_) ?_
            rotate_left 1
            · have e0 := HEC.out w hS
              clear hN
              go_simp
              refine givesP_mk ?_
              with_reducible rfl
            refine rg_mem (fun u => ∃ A k c B m d, u = .tuple #[.agg #[.slice A k c, .slice B m d], .int .i64 id] : Value → Prop) (fun u w => TabI c1 id (u 7) w : (Nat → GV) → World → Prop) (fun _ => Ext) rfl rfl rfl rfl (by kernel_rfl) (by kernel_rfl) (fun w hS hN R hR => ?_) ?_
            · have HR := Lib.hid hR
              clear hR
              (try clear hN)
              go_simp
              refine givesM_call ((istr_any (.agg #[.slice A5 k5 c5, .slice B5 m5 d5]) c1 s1 w (HT5.out.ext (HXR.out.trans hS)) HC1.out.1 HC1.out.2 HFS.out).mono ?_)
              intro e w' hp
              rw [HSTR.out] at hp
              obtain ⟨A, k, c, B, m, d, rfl, hin, hx⟩ := hp.far
              exact ⟨_, rfl, HR.out _ _ ⟨_, _, _, _, _, _, rfl⟩ ⟨_, rfl, hin⟩ hx⟩
            rintro u7 s7 t7 ⟨A7, k7, c7, B7, m7, d7, rfl⟩
            refine rg_pure (v := ?_) rfl (by kernel_rfl) (by kernel_rfl) (fun w hS hN => ?_) ?_
            rotate_left 1
            · clear hN
              go_simp
              refine givesP_mk ?_
              with_reducible rfl
            refine rg_pure (v := ?_) rfl (by kernel_rfl) (by kernel_rfl) (fun w hS hN => ?_) ?_
            rotate_left 1
            · clear hN
              go_simp
              refine givesP_mk ?_
              with_reducible rfl
            refine rg_pure (v := ?_) rfl (by kernel_rfl) (by kernel_rfl) (fun w hS hN => ?_) ?_
            rotate_left 1
            · clear hN
              go_simp
              refine givesP_mk ?_
              with_reducible rfl
            refine rg_mem (fun u => ∃ g, u = .pointer (some ⟨g, 0, none⟩) : Value → Prop) (fun u w => BoxN 25 2 wr w (u 11) : (Nat → GV) → World → Prop) (fun _ => Ext) rfl rfl rfl rfl (by kernel_rfl) (by kernel_rfl) (fun w hS hN R hR => ?_) ?_
            · have HR := Lib.hid hR
              clear hR
              (try clear hN)
              go_simp
              exact givesM_val (HR.out _ _ ⟨_, rfl⟩ (BoxN.made hS #[.slice none 0 0, .slice none 0 0]) ((Ext.refl w).alloc _))
            rintro u11 s11 t11 ⟨g11, rfl⟩
            refine rg_mem (fun u => u = undef : Value → Prop) (fun u w => HasT2 wr id w (u 7) (u 11) : (Nat → GV) → World → Prop) (fun u => ChgIn (wr) (0) ([11].map u)) rfl rfl rfl rfl (by kernel_rfl) (by kernel_rfl) (fun w hS hN R hR => ?_) ?_
            · have HR := Lib.hid hR
              clear hR
              have h11 : BoxN 25 2 wr w ⟨.pointer (some ⟨g11, 0, none⟩), s11, t11⟩ := hN.get 11 rfl (by kernel_rfl)
              obtain ⟨g, cz, hcz, hg, hg2, hg3, hg4⟩ := h11
              simp only [Value.pointer.injEq, Option.some.injEq, Addr.mk.injEq, and_true] at hg
              subst hg
              obtain ⟨x0, x1, rfl, y0, y1⟩ := cellsOf2b hcz hg4
              have HG2 := Lib.hid hg2
              have HG3 := Lib.hid hg3
              have HG4 := Lib.hid hg4
              have f0 := frozen_of_row _ _ 0 _ _ hg4
              have f1 := frozen_of_row _ _ 1 _ _ hg4
              clear hg2 hg3 hg4 hcz hN
              (try clear hN)
              go_simp
              refine givesM_skipq (HR.out _ _ rfl ⟨_, rfl, g11, rfl, HG2.out, set2_at HG4.out _ _⟩ (ChgIn.set2b rfl hS HG2.out HG3.out HG4.out _ _))
            rintro u12 s12 t12 rfl
            refine rg_pure (v := ?_) rfl (by kernel_rfl) (by kernel_rfl) (fun w hS hN => ?_) ?_
            rotate_left 1
            · clear hN
              go_simp
              refine givesP_mk ?_
              with_reducible rfl
            refine rg_done rfl (Nat.le_of_ble_eq_true (by kernel_rfl)) ?_
            intro w8 hS hT
            have h7 : TabI c1 id ⟨.tuple #[.agg #[.slice A7 k7 c7, .slice B7 m7 d7], .int .i64 id], s7, t7⟩ w8 := hT (7, ⟨.tuple #[.agg #[.slice A7 k7 c7, .slice B7 m7 d7], .int .i64 id], s7, t7⟩) (by simp)
            have h12 : HasT2 wr id w8 ⟨.tuple #[.agg #[.slice A7 k7 c7, .slice B7 m7 d7], .int .i64 id], s7, t7⟩ ⟨.pointer (some ⟨g11, 0, none⟩), s11, t11⟩ := hT (12, ⟨undef, s12, t12⟩) (by simp)
            obtain ⟨tv, htv, hti⟩ := h7
            simp only [Value.tuple.injEq, Array.mk.injEq, List.cons.injEq, and_true] at htv
            obtain rfl := htv
            obtain ⟨tw, htw, g, hg, hg2, hg3⟩ := h12
            simp only [Value.tuple.injEq, Value.pointer.injEq, Option.some.injEq, Addr.mk.injEq, Array.mk.injEq, List.cons.injEq, and_true] at htw hg
            obtain rfl := htw
            subst hg
            have HX8 := Lib.hid (HXR.out.trans hS)
            have HSAM := Lib.hid (rsametab_k (.agg #[.slice A5 k5 c5, .slice B5 m5 d5]) (.agg #[.slice A7 k7 c7, .slice B7 m7 d7]) c1 c1 true w8 (Tb.same_iff.2 rfl) (HT5.out.ext HX8.out) hti.tab HCF.out HCF.out)
            obtain ⟨r0, r1⟩ := HCA.out w8 HX8.out
            have z0 := blk_cell hg3 0 _ rfl
            have z1 := blk_cell hg3 1 _ rfl
            clear hT hS hti hg2 hg3
            simp only [Value.cells] at z0 z1
            go_wp2_with fail
            refine HSAM.out.mono ?_
            rintro e w9 ⟨rfl, hx9⟩
            have HX9 := Lib.hid (HX8.out.trans hx9)
            clear hx9 r0 r1 z0 z1
            go_wp2
            go_roundw
            case rel => exact ⟨k + 1, by omega, by go_num, HX9.out⟩
            case measure => simp [intOf]; omega
          · obtain ⟨wl, rfl⟩ : ∃ wl, wl = wr := ⟨_, rfl⟩
            obtain ⟨t2, m2, hst⟩ : ∃ t2 m2, c1.stk (l ++ [Tb.moreF]) = (t2, m2) := ⟨_, _, rfl⟩
            have HST2 := Lib.hid hst
            obtain ⟨hm1, hm2⟩ := HMO.out
            rw [hst] at hm1 hm2
            simp only at hm1 hm2
            have hm2' : (m2 != n5) = true := by simpa using hm2
            have hm1' : 0 < m2 := hm1
            obtain ⟨nz, hnz⟩ : ∃ n, l.length + 1 = n := ⟨_, rfl⟩
            have HN1 := Lib.hid hnz
            have HSZ2 : Hid (∀ f ∈ l ++ [Tb.moreF], f.1.size ≤ maxLen) := Lib.hid fun f hf => by
              rcases List.mem_append.1 hf with hf | hf
              · exact Tb.few_sz h3 f hf
              · rw [List.mem_singleton.1 hf]; decide
            obtain ⟨i0, I0, I1, I2, I3⟩ := info_parts Try.infoFr
            have J0 := Lib.hid I0
            have J1 := Lib.hid I1
            have J2 := Lib.hid I2
            have J3 := Lib.hid I3
            clear hst hm1 hm2 hnz I0 I1 I2 I3
            go_upto_region 12 with fail
            clear t0 t1 x0 x1
            refine region_rgw ([(1, (fun u => ∃ g, u = .slice (some ⟨g, 0, none⟩) 0 0 : Value → Prop), (fun u w => RowG 45 2 fcL wl.heap.size w (u 1).v ([] : List (ByteArray × Int)) [u 1] : (Nat → GV) → World → Prop)), (4, (fun u => ∃ A c, u = .slice A l.length c : Value → Prop), (fun u w => RowG 45 2 fcL wl.heap.size w (u 4).v l [u 4, u 1] : (Nat → GV) → World → Prop)), (6, (fun u => ∃ g, u = .slice (some ⟨g, 0, none⟩) 1 1 : Value → Prop), (fun u w => RowG 45 2 fcL wl.heap.size w (u 6).v [Tb.moreF] [u 6] : (Nat → GV) → World → Prop)), (7, (fun u => ∃ A c, u = .slice A nz c : Value → Prop), (fun u w => RowG 45 2 fcL wl.heap.size w (u 7).v (l ++ [Tb.moreF]) [u 7, u 4, u 1] : (Nat → GV) → World → Prop)), (8, (fun u => ∃ A k c B m d, u = .tuple #[.agg #[.slice A k c, .slice B m d], .int .i64 m2] : Value → Prop), (fun _ _ => True : (Nat → GV) → World → Prop)), (12, (fun u => ∃ g, u = .pointer (some ⟨g, 0, none⟩) : Value → Prop), (fun u w => BoxN 25 2 wl w (u 12) : (Nat → GV) → World → Prop)), (13, (fun u => u = undef : Value → Prop), (fun _ _ => True : (Nat → GV) → World → Prop))]) (wl) ([(4, 0, [1]), (7, l.length * 2, [4, 1]), (13, 0, [12])]) (by kernel_rfl) (by kernel_rfl) ?_ ?_ ?_ ?_
            · exact List.forall_mem_cons.2 ⟨List.forall_mem_cons.2 ⟨by kernel_rfl, List.forall_mem_nil _⟩, List.forall_mem_cons.2 ⟨List.forall_mem_cons.2 ⟨by kernel_rfl, List.forall_mem_cons.2 ⟨by kernel_rfl, List.forall_mem_nil _⟩⟩, List.forall_mem_cons.2 ⟨List.forall_mem_cons.2 ⟨by kernel_rfl, List.forall_mem_nil _⟩, List.forall_mem_nil _⟩⟩⟩
            · exact List.forall_mem_cons.2 ⟨⟨⟨_, 0, rfl⟩, fun u v w h ht => by show (fun u w => RowG 45 2 fcL wl.heap.size w (u 1).v ([] : List (ByteArray × Int)) [u 1] : (Nat → GV) → World → Prop) v w; dsimp only; rw [← h 1 (.inl rfl) (by kernel_rfl)]; exact ht, fun u w w2 hx ht => ht.ext hx, List.forall_mem_cons.2 ⟨fun _ hp => by first | (intro u w w2 hap haq hc ht; refine ht.chg hc ?_; simp; done) | exact rg_vac hp (by kernel_rfl), List.forall_mem_cons.2 ⟨fun _ hp => by first | (intro u w w2 hap haq hc ht; refine ht.chg hc ?_; simp; done) | exact rg_vac hp (by kernel_rfl), List.forall_mem_cons.2 ⟨fun _ hp => by first | (intro u w w2 hap haq hc ht; refine ht.chg hc ?_; simp; done) | exact rg_vac hp (by kernel_rfl), List.forall_mem_nil _⟩⟩⟩⟩, List.forall_mem_cons.2 ⟨⟨⟨_, none, 0, rfl⟩, fun u v w h ht => by show (fun u w => RowG 45 2 fcL wl.heap.size w (u 4).v l [u 4, u 1] : (Nat → GV) → World → Prop) v w; dsimp only; rw [← h 4 (.inl rfl) (by kernel_rfl), ← h 1 (.inr (by kernel_rfl)) (by kernel_rfl)]; exact ht, fun u w w2 hx ht => ht.ext hx, List.forall_mem_cons.2 ⟨fun hne => absurd rfl hne, List.forall_mem_cons.2 ⟨fun _ hp => by first | (intro u w w2 hap haq hc ht; (first | (refine ht.chg hc ?_; simp; done) | (refine ht.far hc ?_; intro g hg k hk; simp at hg; subst hg; simp at hk; rcases hk with rfl | rfl; exact hap 12 (by simp) (by simp); exact haq 12 (by simp) 1 (by kernel_rfl) (by kernel_rfl) (by decide))); done) | exact rg_vac hp (by kernel_rfl), List.forall_mem_cons.2 ⟨fun _ hp => by first | (intro u w w2 hap haq hc ht; (first | (refine ht.chg hc ?_; simp; done) | (refine ht.far hc ?_; intro g hg k hk; simp at hg; subst hg; simp at hk; rcases hk with rfl | rfl; exact hap 12 (by simp) (by simp); exact haq 12 (by simp) 1 (by kernel_rfl) (by kernel_rfl) (by decide))); done) | exact rg_vac hp (by kernel_rfl), List.forall_mem_nil _⟩⟩⟩⟩, List.forall_mem_cons.2 ⟨⟨⟨_, 0, rfl⟩, fun u v w h ht => by show (fun u w => RowG 45 2 fcL wl.heap.size w (u 6).v [Tb.moreF] [u 6] : (Nat → GV) → World → Prop) v w; dsimp only; rw [← h 6 (.inl rfl) (by kernel_rfl)]; exact ht, fun u w w2 hx ht => ht.ext hx, List.forall_mem_cons.2 ⟨fun _ hp => by first | (intro u w w2 hap haq hc ht; (refine ht.far hc ?_; simpa using hap); done) | exact rg_vac hp (by kernel_rfl), List.forall_mem_cons.2 ⟨fun _ hp => by first | (intro u w w2 hap haq hc ht; (refine ht.far hc ?_; simpa using hap); done) | exact rg_vac hp (by kernel_rfl), List.forall_mem_cons.2 ⟨fun _ hp => by first | (intro u w w2 hap haq hc ht; (refine ht.far hc ?_; simpa using hap); done) | exact rg_vac hp (by kernel_rfl), List.forall_mem_nil _⟩⟩⟩⟩, List.forall_mem_cons.2 ⟨⟨⟨_, none, 0, rfl⟩, fun u v w h ht => by show (fun u w => RowG 45 2 fcL wl.heap.size w (u 7).v (l ++ [Tb.moreF]) [u 7, u 4, u 1] : (Nat → GV) → World → Prop) v w; dsimp only; rw [← h 7 (.inl rfl) (by kernel_rfl), ← h 4 (.inr (by kernel_rfl)) (by kernel_rfl), ← h 1 (.inr (by kernel_rfl)) (by kernel_rfl)]; exact ht, fun u w w2 hx ht => ht.ext hx, List.forall_mem_cons.2 ⟨fun _ hp => by first | (intro u w w2 hap haq hc ht; (first | (refine ht.chg hc ?_; simp; done) | (refine ht.far hc ?_; intro g hg k hk; simp at hg; subst hg; simp at hk; rcases hk with rfl | rfl | rfl; exact hap 12 (by simp) (by simp); exact haq 12 (by simp) 4 (by kernel_rfl) (by kernel_rfl) (by decide); exact haq 12 (by simp) 1 (by kernel_rfl) (by kernel_rfl) (by decide))); done) | exact rg_vac hp (by kernel_rfl), List.forall_mem_cons.2 ⟨fun hne => absurd rfl hne, List.forall_mem_cons.2 ⟨fun _ hp => by first | (intro u w w2 hap haq hc ht; (first | (refine ht.chg hc ?_; simp; done) | (refine ht.far hc ?_; intro g hg k hk; simp at hg; subst hg; simp at hk; rcases hk with rfl | rfl | rfl; exact hap 12 (by simp) (by simp); exact haq 12 (by simp) 4 (by kernel_rfl) (by kernel_rfl) (by decide); exact haq 12 (by simp) 1 (by kernel_rfl) (by kernel_rfl) (by decide))); done) | exact rg_vac hp (by kernel_rfl), List.forall_mem_nil _⟩⟩⟩⟩, List.forall_mem_cons.2 ⟨⟨⟨_, none, 0, 0, none, 0, 0, rfl⟩, fun _ _ _ _ _ => trivial, fun _ _ _ _ _ => trivial, List.forall_mem_cons.2 ⟨fun _ _ _ _ _ _ _ _ _ => trivial, List.forall_mem_cons.2 ⟨fun _ _ _ _ _ _ _ _ _ => trivial, List.forall_mem_cons.2 ⟨fun _ _ _ _ _ _ _ _ _ => trivial, List.forall_mem_nil _⟩⟩⟩⟩, List.forall_mem_cons.2 ⟨⟨⟨_, 0, rfl⟩, fun u v w h ht => by show (fun u w => BoxN 25 2 wl w (u 12) : (Nat → GV) → World → Prop) v w; dsimp only; rw [← h 12 (.inl rfl) (by kernel_rfl)]; exact ht, fun u w w2 hx ht => ht.ext hx, List.forall_mem_cons.2 ⟨fun _ hp => by first | (intro u w w2 hap haq hc ht; (exact ht.chg hc); done) | exact rg_vac hp (by kernel_rfl), List.forall_mem_cons.2 ⟨fun _ hp => by first | (intro u w w2 hap haq hc ht; (exact ht.chg hc); done) | exact rg_vac hp (by kernel_rfl), List.forall_mem_cons.2 ⟨fun _ hp => by first | (intro u w w2 hap haq hc ht; (exact ht.chg hc); done) | exact rg_vac hp (by kernel_rfl), List.forall_mem_nil _⟩⟩⟩⟩, List.forall_mem_cons.2 ⟨⟨⟨_, rfl⟩, fun _ _ _ _ _ => trivial, fun _ _ _ _ _ => trivial, List.forall_mem_cons.2 ⟨fun _ _ _ _ _ _ _ _ _ => trivial, List.forall_mem_cons.2 ⟨fun _ _ _ _ _ _ _ _ _ => trivial, List.forall_mem_cons.2 ⟨fun hne => absurd rfl hne, List.forall_mem_nil _⟩⟩⟩⟩, List.forall_mem_nil _⟩⟩⟩⟩⟩⟩⟩
            · first | assumption | exact Ext.refl _
            refine rg_pure (v := ?_) rfl (by kernel_rfl) (by kernel_rfl) (fun w hS hN => ?_) ?_
            rotate_left 1
            · obtain ⟨r0, r1⟩ := HCA.out w (HXR.out.trans hS)
              clear hN
              go_simp
              refine givesP_mk ?_
              with_reducible rfl
            refine rg_mem (fun u => ∃ g, u = .slice (some ⟨g, 0, none⟩) 0 0 : Value → Prop) (fun u w => RowG 45 2 fcL wl.heap.size w (u 1).v ([] : List (ByteArray × Int)) [u 1] : (Nat → GV) → World → Prop) (fun _ => Ext) rfl rfl rfl rfl (by kernel_rfl) (by kernel_rfl) (fun w hS hN R hR => ?_) ?_
            · have HR := Lib.hid hR
              clear hR
              (try clear hN)
              go_simp
              exact givesM_val (HR.out _ _ ⟨_, rfl⟩ (RowG.made hS.size _ _) ((Ext.refl w).alloc _))
            rintro u1 s1 t1 ⟨g1, rfl⟩
            refine rg_pure (v := ?_) rfl (by kernel_rfl) (by kernel_rfl) (fun w hS hN => ?_) ?_
            rotate_left 1
            · clear hN
              go_simp
              refine givesP_mk ?_
              with_reducible rfl
            refine rg_pure (v := ?_) rfl (by kernel_rfl) (by kernel_rfl) (fun w hS hN => ?_) ?_
            rotate_left 1
            · obtain ⟨t0, t1, x0, x1⟩ := HC0.out w (HX5.out.trans (HXR.out.trans hS))
              clear hN
              go_simp
              refine givesP_mk ?_
              with_reducible rfl
            refine rg_mem (fun u => ∃ A c, u = .slice A l.length c : Value → Prop) (fun u w => RowG 45 2 fcL wl.heap.size w (u 4).v l [u 4, u 1] : (Nat → GV) → World → Prop) (fun u => ChgIn (wl) (0) ([1].map u)) rfl rfl rfl rfl (by kernel_rfl) (by kernel_rfl) (fun w hS hN R hR => ?_) ?_
            · have HR := Lib.hid hR
              clear hR
              have h1 : RowG 45 2 fcL wl.heap.size w (.slice (some ⟨g1, 0, none⟩) 0 0) ([] : List (ByteArray × Int)) _ := hN.get 1 rfl (by kernel_rfl)
              obtain ⟨u', w', hr, ⟨A', c', rfl⟩, ho, hc, -⟩ := RowG.append (P := Try.prog) 26 Try.underlying26 J0.out J1.out J2.out J3.out rfl (by decide) fcL_len fcL_one hS h1 (Nat.le_refl _) hS.size rfl (HLF.out.ext (HXR.out.trans hS)) (by unfold maxLen; have := HL20.out; simp; omega) (by have := HL20.out; simp; omega)
              simp only [List.length_nil, Nat.zero_add, Nat.zero_mul, List.nil_append] at hr ho hc
              refine givesM_append _ _ 26 rfl _ _ (by go_simp) (by go_simp) hr ?_
              exact HR.out _ _ ⟨_, _, rfl⟩ ho hc
            rintro u4 s4 t4 ⟨A4, c4, rfl⟩
            refine rg_pure (v := ?_) rfl (by kernel_rfl) (by kernel_rfl) (fun w hS hN => ?_) ?_
            rotate_left 1
            · clear hN
              go_simp
              refine givesP_mk ?_
              with_reducible rfl
            refine rg_mem (fun u => ∃ g, u = .slice (some ⟨g, 0, none⟩) 1 1 : Value → Prop) (fun u w => RowG 45 2 fcL wl.heap.size w (u 6).v [Tb.moreF] [u 6] : (Nat → GV) → World → Prop) (fun _ => Ext) rfl rfl rfl rfl (by kernel_rfl) (by kernel_rfl) (fun w hS hN R hR => ?_) ?_
            · have HR := Lib.hid hR
              clear hR
              (try clear hN)
              go_simp
              exact givesM_val (HR.out _ _ ⟨_, rfl⟩ (RowG.made1 hS.size Tb.moreF rfl _) ((Ext.refl w).alloc _))
            rintro u6 s6 t6 ⟨g6, rfl⟩
            refine rg_mem (fun u => ∃ A c, u = .slice A nz c : Value → Prop) (fun u w => RowG 45 2 fcL wl.heap.size w (u 7).v (l ++ [Tb.moreF]) [u 7, u 4, u 1] : (Nat → GV) → World → Prop) (fun u => ChgIn (wl) (l.length * 2) ([4, 1].map u)) rfl rfl rfl rfl (by kernel_rfl) (by kernel_rfl) (fun w hS hN R hR => ?_) ?_
            · have HR := Lib.hid hR
              clear hR
              have h4 : RowG 45 2 fcL wl.heap.size w (.slice A4 l.length c4) l _ := hN.get 4 rfl (by kernel_rfl)
              have h6 : RowG 45 2 fcL wl.heap.size w (.slice (some ⟨g6, 0, none⟩) 1 1) [Tb.moreF] _ := hN.get 6 rfl (by kernel_rfl)
              obtain ⟨u', w', hr, ⟨A', c', hu⟩, ho, hc, -⟩ := RowG.append (P := Try.prog) (k := 1) 26 Try.underlying26 J0.out J1.out J2.out J3.out rfl (by decide) fcL_len fcL_one hS h4 (Nat.le_refl _) hS.size rfl (OwnRows.rows fcL_len h6.1) (by unfold maxLen; have := HL20.out; simp; omega) (by have := HL20.out; simp; omega)
              rw [show l.length + [Tb.moreF].length = nz from HN1.out] at hu
              subst hu
              refine givesM_append _ _ 26 rfl _ _ (by go_simp) (by go_simp) hr ?_
              exact HR.out _ _ ⟨_, _, rfl⟩ ho hc
            rintro u7 s7 t7 ⟨A7, c7, rfl⟩
            refine rg_mem (fun u => ∃ A k c B m d, u = .tuple #[.agg #[.slice A k c, .slice B m d], .int .i64 m2] : Value → Prop) (fun _ _ => True : (Nat → GV) → World → Prop) (fun _ => Ext) rfl rfl rfl rfl (by kernel_rfl) (by kernel_rfl) (fun w hS hN R hR => ?_) ?_
            · have HR := Lib.hid hR
              clear hR
              have h7 : RowG 45 2 fcL wl.heap.size w (.slice A7 nz c7) (l ++ [Tb.moreF]) _ := hN.get 7 rfl (by kernel_rfl)
              have h7r := OwnRows.rows fcL_len h7.1
              clear h7 hN
              (try clear hN)
              go_simp
              refine givesM_call ((istk_k (.agg #[.slice A5 k5 c5, .slice B5 m5 d5]) (.slice A7 nz c7) c1 (l ++ [Tb.moreF]) t2 m2 w HST2.out (HT5.out.ext (HXR.out.trans hS)) h7r HC1.out.1 HC1.out.2 (by have := HL20.out; simp; omega) HSZ2.out).mono ?_)
              rintro e w' ⟨A, k, c, B, m, d, rfl, -, -, -, hx⟩
              exact ⟨_, rfl, HR.out _ _ ⟨_, _, _, _, _, _, rfl⟩ trivial hx⟩
            rintro u8 s8 t8 ⟨A8, k8, c8, B8, m8, d8, rfl⟩
            refine rg_pure (v := ?_) rfl (by kernel_rfl) (by kernel_rfl) (fun w hS hN => ?_) ?_
            rotate_left 1
            · clear hN
              go_simp
              refine givesP_mk ?_
              with_reducible rfl
            refine rg_pure (v := ?_) rfl (by kernel_rfl) (by kernel_rfl) (fun w hS hN => ?_) ?_
            rotate_left 1
            · clear hN
              go_simp
              refine givesP_mk ?_
              with_reducible rfl
            refine rg_pure (v := ?_) rfl (by kernel_rfl) (by kernel_rfl) (fun w hS hN => ?_) ?_
            rotate_left 1
            · clear hN
              go_simp
              refine givesP_mk ?_
              with_reducible rfl
            refine rg_mem (fun u => ∃ g, u = .pointer (some ⟨g, 0, none⟩) : Value → Prop) (fun u w => BoxN 25 2 wl w (u 12) : (Nat → GV) → World → Prop) (fun _ => Ext) rfl rfl rfl rfl (by kernel_rfl) (by kernel_rfl) (fun w hS hN R hR => ?_) ?_
            · have HR := Lib.hid hR
              clear hR
              (try clear hN)
              go_simp
              exact givesM_val (HR.out _ _ ⟨_, rfl⟩ (BoxN.made hS #[.slice none 0 0, .slice none 0 0]) ((Ext.refl w).alloc _))
            rintro u12 s12 t12 ⟨g12, rfl⟩
            refine rg_mem (fun u => u = undef : Value → Prop) (fun _ _ => True : (Nat → GV) → World → Prop) (fun u => ChgIn (wl) (0) ([12].map u)) rfl rfl rfl rfl (by kernel_rfl) (by kernel_rfl) (fun w hS hN R hR => ?_) ?_
            · have HR := Lib.hid hR
              clear hR
              have h12 : BoxN 25 2 wl w ⟨.pointer (some ⟨g12, 0, none⟩), s12, t12⟩ := hN.get 12 rfl (by kernel_rfl)
              obtain ⟨g, cz, hcz, hg, hg2, hg3, hg4⟩ := h12
              simp only [Value.pointer.injEq, Option.some.injEq, Addr.mk.injEq, and_true] at hg
              subst hg
              obtain ⟨x0, x1, rfl, y0, y1⟩ := cellsOf2b hcz hg4
              have HG2 := Lib.hid hg2
              have HG3 := Lib.hid hg3
              have HG4 := Lib.hid hg4
              have f0 := frozen_of_row _ _ 0 _ _ hg4
              have f1 := frozen_of_row _ _ 1 _ _ hg4
              clear hg2 hg3 hg4 hcz hN
              (try clear hN)
              go_simp
              refine givesM_skipq (HR.out _ _ rfl trivial (ChgIn.set2b rfl hS HG2.out HG3.out HG4.out _ _))
            rintro u13 s13 t13 rfl
            refine rg_pure (v := ?_) rfl (by kernel_rfl) (by kernel_rfl) (fun w hS hN => ?_) ?_
            rotate_left 1
            · clear hN
              go_simp
              refine givesP_mk ?_
              with_reducible rfl
            refine rg_done rfl (Nat.le_of_ble_eq_true (by kernel_rfl)) ?_
            intro w13 hS hT
            have HX13 := Lib.hid (HXR.out.trans hS)
            clear hT hS
            go_simp
            go_wp2
            go_ret
            exact ⟨rfl, HXW.out.trans (HX5.out.trans HX13.out)⟩

end Go.Proofs.Ythkalaohaholaaa
