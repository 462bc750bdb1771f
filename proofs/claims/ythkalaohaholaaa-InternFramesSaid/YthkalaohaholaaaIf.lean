/-
  The contract of intern's open.
-/
import Derived.Test.YthkalaohaholaaaIe
import Derived.Test.YthkalaohaholaaaGq
import Derived.Deep.DeepCutAuto
set_option linter.unusedVariables false
set_option linter.unusedSimpArgs false
namespace Go.Proofs.Ythkalaohaholaaa
open Go.RowKit Go.Maps

/-- What open answers. -/
def OpenP (t : Tb) (sv kv : Value) (w : World) (e : Ending) (w' : World) : Prop :=
  Ext w w' ∧ if t.may = true then ∃ tb kb, e = .returned (.tuple #[.agg #[sv, kv, .map (some tb), .map (some kb)], .bool true]) ∧ w.heap.size ≤ tb ∧ w.heap.size ≤ kb ∧ tb ≠ kb ∧ MapQ textKind intKind 0 w' tb t.ss.length (Tb.idx t.ss) ∧ MapQ stackKind intKind 0 w' kb t.ks.length (Tb.idx t.ks)
    else e = .returned (.tuple #[.agg #[.slice none 0 0, .slice none 0 0, .map none, .map none], .bool false])
theorem zero_int (w : World) : (zeroValue 3).run Try.prog w = .ok (intKind.val 0) w := by kernel_rfl
theorem look_text {w : World} {b n : Nat} {f : ByteArray → Int} (h : MapQ textKind intKind 0 w b n f) (s : ByteArray) (hs : s.size ≤ maxLen) : (Instr.lookup 47 (.map (some b)) (.string s) false).run Try.prog w = .ok (.int .i64 (f s)) w :=
  h.look (t := 47) (e := 3) Try.underlying47 (zero_int w) s hs
theorem store_text {w : World} {b n : Nat} {f f' : ByteArray → Int} (h : MapQ textKind intKind 0 w b n f) (hn : n < maxLen) (s : ByteArray) (hs : s.size ≤ maxLen) (p : Int) (h1 : f' s = p) (h2 : ∀ y, y ≠ s → f' y = f y) :
    ∃ w', (Instr.mapUpdate 47 (.map (some b)) (.string s) (.int .i64 p)).run Try.prog w = .ok () w' ∧ MapQ textKind intKind 0 w' b (n + 1) f' ∧ Upd b w w' :=
  h.store (t := 47) (e := 3) Try.underlying47 hn s hs p h1 h2
theorem look_stack {w : World} {b n : Nat} {f : List (Int × Int) → Int} (h : MapQ stackKind intKind 0 w b n f) (s : List (Int × Int)) (hs : Tb.keyed s) : (Instr.lookup 48 (.map (some b)) (Tb.keyV s) false).run Try.prog w = .ok (.int .i64 (f s)) w :=
  h.look (t := 48) (e := 3) Try.underlying48 (zero_int w) s hs
theorem store_stack {w : World} {b n : Nat} {f f' : List (Int × Int) → Int} (h : MapQ stackKind intKind 0 w b n f) (hn : n < maxLen) (s : List (Int × Int)) (hs : Tb.keyed s) (p : Int) (h1 : f' s = p) (h2 : ∀ y, y ≠ s → f' y = f y) :
    ∃ w', (Instr.mapUpdate 48 (.map (some b)) (Tb.keyV s) (.int .i64 p)).run Try.prog w = .ok () w' ∧ MapQ stackKind intKind 0 w' b (n + 1) f' ∧ Upd b w w' :=
  h.store (t := 48) (e := 3) Try.underlying48 hn s hs p h1 h2
theorem Tb.mayS_le {s : ByteArray} (h : Tb.mayS s = true) : s.size ≤ 1000 := by
  unfold Tb.mayS at h
  simp only [decide_eq_true_eq] at h
  exact h.2
set_option maxRecDepth 100000 in
set_option maxHeartbeats 8000000 in
theorem open_any (sv kv : Value) (t : Tb) (w : World) (hs : RowsAt 1 strL w sv t.ss) (hk : NestAt 2 frL w kv t.ks) (hl : t.ss.length ≤ 100000) (hm : t.ks.length ≤ 100000) :
    Calls Try.prog 23 #[.agg #[sv, kv]] w (OpenP t sv kv w) := by
  obtain ⟨A, c, rfl, hc⟩ := hs.form
  obtain ⟨B, d, rfl, hd⟩ := hk.form
  have HS := Lib.hid hs
  have HK := Lib.hid hk
  clear hs hk
  by_cases h1 : 10000 < t.ss.length
  · have HF : Hid (t.may = false) := Lib.hid (by unfold Tb.may; rw [decide_eq_false (by omega)]; rfl)
    have hg1 : (10000 : Int) < (t.ss.length : Int) := by omega
    go_enter Try.func23, Try.ntmps23
    go_wp2
    (have hz := blk_new (w.alloc (.cells #[.slice A t.ss.length c, .slice B t.ks.length d] 25)) (.cells #[.slice none 0 0, .slice none 0 0, .map none, .map none] 50); rw [show (w.alloc (.cells #[.slice A t.ss.length c, .slice B t.ks.length d] 25)).heap.size = w.heap.size + 1 by simp] at hz; obtain ⟨t0, t1, t2, t3⟩ := cells4 hz; refine bodyPost_ret (v := .tuple #[.agg #[.slice none 0 0, .slice none 0 0, .map none, .map none], .bool false]) (by simp [results, Try.results23, go_sem, t0, t1, t2, t3]) rfl ⟨((Ext.refl w).alloc _).alloc _, ?_⟩; rw [if_neg (by rw [HF.out]; simp)])
  by_cases h2 : 10000 < t.ks.length
  · have HF : Hid (t.may = false) := Lib.hid (by unfold Tb.may; rw [decide_eq_false (by omega)]; rfl)
    have hg1 : (t.ss.length : Int) ≤ 10000 := by omega
    have hg2 : (10000 : Int) < (t.ks.length : Int) := by omega
    go_enter Try.func23, Try.ntmps23
    go_wp2
    (have hz := blk_new (w.alloc (.cells #[.slice A t.ss.length c, .slice B t.ks.length d] 25)) (.cells #[.slice none 0 0, .slice none 0 0, .map none, .map none] 50); rw [show (w.alloc (.cells #[.slice A t.ss.length c, .slice B t.ks.length d] 25)).heap.size = w.heap.size + 1 by simp] at hz; obtain ⟨t0, t1, t2, t3⟩ := cells4 hz; refine bodyPost_ret (v := .tuple #[.agg #[.slice none 0 0, .slice none 0 0, .map none, .map none], .bool false]) (by simp [results, Try.results23, go_sem, t0, t1, t2, t3]) rfl ⟨((Ext.refl w).alloc _).alloc _, ?_⟩; rw [if_neg (by rw [HF.out]; simp)])
  have g1 : (t.ss.length : Int) ≤ 10000 := by omega
  have g2 : (t.ks.length : Int) ≤ 10000 := by omega
  go_enter Try.func23, Try.ntmps23
  go_upto_region 3 with fail
  obtain ⟨w1, hw1⟩ : ∃ w1, (w.alloc (.cells #[.slice A t.ss.length c, .slice B t.ks.length d] 25)).alloc (.cells #[.slice none 0 0, .slice none 0 0, .map none, .map none] 50) = w1 := ⟨_, rfl⟩
  have HX1 : Hid (Ext w w1) := Lib.hid (by rw [← hw1]; exact ((Ext.refl w).alloc _).alloc _)
  have HT1 : Hid (w1.heap[w.heap.size]? = some (.cells #[.slice A t.ss.length c, .slice B t.ks.length d] 25)) := Lib.hid (by rw [← hw1]; exact blk_alloc (blk_new w _) _)
  have HR1 : Hid (w1.heap[w.heap.size + 1]? = some (.cells #[.slice none 0 0, .slice none 0 0, .map none, .map none] 50)) := Lib.hid (by
    have := blk_new (w.alloc (.cells #[.slice A t.ss.length c, .slice B t.ks.length d] 25)) (.cells #[.slice none 0 0, .slice none 0 0, .map none, .map none] 50)
    rw [hw1] at this
    simpa using this)
  rw [hw1]
  clear hw1
  refine region_rgw ([(4, (fun u => ∃ g, u = .map (some g) : Value → Prop), (fun u w => MapR w1 w (u 4) : (Nat → GV) → World → Prop)), (8, (fun u => ∃ g, u = .map (some g) : Value → Prop), (fun u w => MapR w1 w (u 8) : (Nat → GV) → World → Prop)), (10, (fun u => ∃ g, u = .pointer (some ⟨g, 0, none⟩) : Value → Prop), (fun u w => BoxN 50 4 w1 w (u 10) : (Nat → GV) → World → Prop)), (11, (fun u => u = undef : Value → Prop), (fun u w => HasN 50 w1 w (u 10) #[.slice A t.ss.length c, .slice B t.ks.length d, (u 4).v, (u 8).v] : (Nat → GV) → World → Prop))]) (w1) ([(11, 0, [10])]) (by kernel_rfl) (by kernel_rfl) ?_ ?_ ?_ ?_
  · exact List.forall_mem_cons.2 ⟨List.forall_mem_cons.2 ⟨by kernel_rfl, List.forall_mem_nil _⟩, List.forall_mem_nil _⟩
  · exact List.forall_mem_cons.2 ⟨⟨⟨_, 0, rfl⟩, fun u v w h ht => by show (fun u w => MapR w1 w (u 4) : (Nat → GV) → World → Prop) v w; dsimp only; rw [← h 4 (.inl rfl) (by kernel_rfl)]; exact ht, fun u w w2 hx ht => ht.ext hx, List.forall_mem_cons.2 ⟨fun _ hp => by first | (intro u w w2 hap haq hc ht; (refine ht.far hc ?_; simpa using hap); done) | exact rg_vac hp (by kernel_rfl), List.forall_mem_nil _⟩⟩, List.forall_mem_cons.2 ⟨⟨⟨_, 0, rfl⟩, fun u v w h ht => by show (fun u w => MapR w1 w (u 8) : (Nat → GV) → World → Prop) v w; dsimp only; rw [← h 8 (.inl rfl) (by kernel_rfl)]; exact ht, fun u w w2 hx ht => ht.ext hx, List.forall_mem_cons.2 ⟨fun _ hp => by first | (intro u w w2 hap haq hc ht; (refine ht.far hc ?_; simpa using hap); done) | exact rg_vac hp (by kernel_rfl), List.forall_mem_nil _⟩⟩, List.forall_mem_cons.2 ⟨⟨⟨_, 0, rfl⟩, fun u v w h ht => by show (fun u w => BoxN 50 4 w1 w (u 10) : (Nat → GV) → World → Prop) v w; dsimp only; rw [← h 10 (.inl rfl) (by kernel_rfl)]; exact ht, fun u w w2 hx ht => ht.ext hx, List.forall_mem_cons.2 ⟨fun _ hp => by first | (intro u w w2 hap haq hc ht; (exact ht.chg hc); done) | exact rg_vac hp (by kernel_rfl), List.forall_mem_nil _⟩⟩, List.forall_mem_cons.2 ⟨⟨⟨_, rfl⟩, fun u v w h ht => by show (fun u w => HasN 50 w1 w (u 10) #[.slice A t.ss.length c, .slice B t.ks.length d, (u 4).v, (u 8).v] : (Nat → GV) → World → Prop) v w; dsimp only; rw [← h 10 (.inr (by kernel_rfl)) (by kernel_rfl), ← h 4 (.inr (by kernel_rfl)) (by kernel_rfl), ← h 8 (.inr (by kernel_rfl)) (by kernel_rfl)]; exact ht, fun u w w2 hx ht => ht.ext hx, List.forall_mem_cons.2 ⟨fun hne => absurd rfl hne, List.forall_mem_nil _⟩⟩, List.forall_mem_nil _⟩⟩⟩⟩
  · first | assumption | exact Ext.refl _
  refine rg_pure (v := ?_) rfl (by kernel_rfl) (by kernel_rfl) (fun w hS hN => ?_) ?_
  rotate_left 1
  · have k0 := blk_cell (hS.blk HT1.out) 0 _ rfl
    have k1 := blk_cell (hS.blk HT1.out) 1 _ rfl
    clear hN
    go_simp
    refine givesP_mk ?_
    with_reducible rfl
  refine rg_pure (v := ?_) rfl (by kernel_rfl) (by kernel_rfl) (fun w hS hN => ?_) ?_
  rotate_left 1
  · clear hN
    go_simp
    refine givesP_mk ?_
    with_reducible rfl
  refine rg_pure (v := ?_) rfl (by kernel_rfl) (by kernel_rfl) (fun w hS hN => ?_) ?_
  rotate_left 1
  · have k0 := blk_cell (hS.blk HT1.out) 0 _ rfl
    clear hN
    go_simp
    refine givesP_mk ?_
    with_reducible rfl
  refine rg_pure (v := ?_) rfl (by kernel_rfl) (by kernel_rfl) (fun w hS hN => ?_) ?_
  rotate_left 1
  · clear hN
    go_simp
    refine givesP_mk ?_
    with_reducible rfl
  refine rg_mem (fun u => ∃ g, u = .map (some g) : Value → Prop) (fun u w => MapR w1 w (u 4) : (Nat → GV) → World → Prop) (fun _ => Ext) rfl rfl rfl rfl (by kernel_rfl) (by kernel_rfl) (fun w hS hN R hR => ?_) ?_
  · have HR := Lib.hid hR
    clear hR
    (try clear hN)
    go_simp
    exact givesM_val (HR.out _ _ ⟨_, rfl⟩ (MapR.made hS) ((Ext.refl w).alloc _))
  rintro u4 s4 t4 ⟨g4, rfl⟩
  refine rg_pure (v := ?_) rfl (by kernel_rfl) (by kernel_rfl) (fun w hS hN => ?_) ?_
  rotate_left 1
  · clear hN
    go_simp
    refine givesP_mk ?_
    with_reducible rfl
  refine rg_pure (v := ?_) rfl (by kernel_rfl) (by kernel_rfl) (fun w hS hN => ?_) ?_
  rotate_left 1
  · have k0 := blk_cell (hS.blk HT1.out) 1 _ rfl
    clear hN
    go_simp
    refine givesP_mk ?_
    with_reducible rfl
  refine rg_pure (v := ?_) rfl (by kernel_rfl) (by kernel_rfl) (fun w hS hN => ?_) ?_
  rotate_left 1
  · clear hN
    go_simp
    refine givesP_mk ?_
    with_reducible rfl
  refine rg_mem (fun u => ∃ g, u = .map (some g) : Value → Prop) (fun u w => MapR w1 w (u 8) : (Nat → GV) → World → Prop) (fun _ => Ext) rfl rfl rfl rfl (by kernel_rfl) (by kernel_rfl) (fun w hS hN R hR => ?_) ?_
  · have HR := Lib.hid hR
    clear hR
    (try clear hN)
    go_simp
    exact givesM_val (HR.out _ _ ⟨_, rfl⟩ (MapR.made hS) ((Ext.refl w).alloc _))
  rintro u8 s8 t8 ⟨g8, rfl⟩
  refine rg_pure (v := ?_) rfl (by kernel_rfl) (by kernel_rfl) (fun w hS hN => ?_) ?_
  rotate_left 1
  · clear hN
    go_simp
    refine givesP_mk ?_
    with_reducible rfl
  refine rg_mem (fun u => ∃ g, u = .pointer (some ⟨g, 0, none⟩) : Value → Prop) (fun u w => BoxN 50 4 w1 w (u 10) : (Nat → GV) → World → Prop) (fun _ => Ext) rfl rfl rfl rfl (by kernel_rfl) (by kernel_rfl) (fun w hS hN R hR => ?_) ?_
  · have HR := Lib.hid hR
    clear hR
    (try clear hN)
    go_simp
    exact givesM_val (HR.out _ _ ⟨_, rfl⟩ (BoxN.made hS #[.slice none 0 0, .slice none 0 0, .map none, .map none]) ((Ext.refl w).alloc _))
  rintro u10 s10 t10 ⟨g10, rfl⟩
  refine rg_mem (fun u => u = undef : Value → Prop) (fun u w => HasN 50 w1 w (u 10) #[.slice A t.ss.length c, .slice B t.ks.length d, (u 4).v, (u 8).v] : (Nat → GV) → World → Prop) (fun u => ChgIn (w1) (0) ([10].map u)) rfl rfl rfl rfl (by kernel_rfl) (by kernel_rfl) (fun w hS hN R hR => ?_) ?_
  · have HR := Lib.hid hR
    clear hR
    have h10 : BoxN 50 4 w1 w ⟨.pointer (some ⟨g10, 0, none⟩), s10, t10⟩ := hN.get 10 rfl (by kernel_rfl)
    obtain ⟨g, cs, hsz, hg, hg2, hg3, hg4⟩ := h10
    simp only [Value.pointer.injEq, Option.some.injEq, Addr.mk.injEq, and_true] at hg
    subst hg
    have HZB := Lib.hid hg4
    have HG2 := Lib.hid hg2
    have HG3 := Lib.hid hg3
    clear hg4 hg2 hg3 hN
    obtain ⟨z0, z1, z2, z3, k0, k1, k2, k3⟩ := cellsOf4 hsz HZB.out
    obtain ⟨y0, y1, y2, y3⟩ := frozen4 HZB.out
    (try clear hN)
    go_simp
    refine givesM_skipq (HR.out _ _ rfl ⟨g10, rfl, HG2.out, set4_at hsz HZB.out _ _ _ _⟩ (ChgIn.set4 hsz hS HG2.out HG3.out HZB.out _ _ _ _))
  rintro u11 s11 t11 rfl
  refine rg_doneA rfl (Nat.le_of_ble_eq_true (by kernel_rfl)) ?_
  intro w8 hS hT hA
  have h4 : MapR w1 w8 ⟨.map (some g4), s4, t4⟩ := hT (4, ⟨.map (some g4), s4, t4⟩) (by simp)
  have h8 : MapR w1 w8 ⟨.map (some g8), s8, t8⟩ := hT (8, ⟨.map (some g8), s8, t8⟩) (by simp)
  have h11 : HasN 50 w1 w8 ⟨.pointer (some ⟨g10, 0, none⟩), s10, t10⟩ #[.slice A t.ss.length c, .slice B t.ks.length d, .map (some g4), .map (some g8)] := hT (11, ⟨undef, s11, t11⟩) (by simp)
  have hap : GV.apart ⟨.map (some g4), s4, t4⟩ ⟨.map (some g8), s8, t8⟩ := hA (4, _) (by simp) (8, _) (by simp) (by simp)
  obtain ⟨g, e4, l4, r4, m4⟩ := h4
  obtain rfl : g = g4 := by simpa using e4.symm
  obtain ⟨g', e8, l8, r8, m8⟩ := h8
  obtain rfl : g' = g8 := by simpa using e8.symm
  obtain ⟨h, e11, l11, m11⟩ := h11
  obtain rfl : h = g10 := by simpa using e11.symm
  have hgg : g ≠ g' := by unfold GV.apart at hap; simp only at hap r4 r8; omega
  have hgh : g ≠ h := by rintro rfl; rw [m4] at m11; cases m11
  have hgh' : g' ≠ h := by rintro rfl; rw [m8] at m11; cases m11
  have H4 : Hid (MapQ textKind intKind 0 w8 g 0 fun _ => 0) := Lib.hid (MapQ.of_blk m4)
  have H8 : Hid (MapQ stackKind intKind 0 w8 g' 0 fun _ => 0) := Lib.hid (MapQ.of_blk m8)
  have HB8 := Lib.hid m11
  have HX8 := Lib.hid (HX1.out.trans hS)
  have HT8 := Lib.hid (hS.blk HT1.out)
  have HR8 := Lib.hid (hS.blk HR1.out)
  have hw1 : w.heap.size + 2 ≤ w1.heap.size := by have := blk_lt HR1.out; omega
  clear e4 e8 e11 r4 r8 hap hA hT hS m4 m8 m11 HT1 HR1
  have q0 := blk_cell HT8.out 0 _ rfl
  go_simp
  go_wp2_with fail
  go_loopw [34] (fun iv wr => ∃ k : Nat, k ≤ t.ss.length ∧ iv = .int .i64 k ∧ Tb.okS (t.ss.take k) = true ∧ MapQ textKind intKind 0 wr g k (Tb.idx (t.ss.take k)) ∧ Upd g w8 wr) (fun iv _ => t.ss.length - (intOf iv).toNat)
  case atStart =>
    refine ⟨0, by omega, rfl, rfl, ?_, Upd.refl g w8⟩
    have e : Tb.idx (t.ss.take 0) = fun _ => 0 := funext fun x => by simp [Tb.idx]
    rw [e]
    exact H4.out
  case round =>
    obtain ⟨k, hk, rfl, hok, hmq, hu⟩ := hrel
    have HU := Lib.hid hu
    have HM := Lib.hid hmq
    have HOK := Lib.hid hok
    have HXR : Hid (Ext w wr) := Lib.hid (HX8.out.upd hu (by have := HX1.out.size; omega))
    have HBR : Hid (wr.heap[h]? = _) := Lib.hid (hu.blk HB8.out (Ne.symm hgh))
    have HTR : Hid (wr.heap[w.heap.size]? = _) := Lib.hid (hu.blk HT8.out (by omega))
    have HRR : Hid (wr.heap[w.heap.size + 1]? = _) := Lib.hid (hu.blk HR8.out (by omega))
    clear hu hmq hok q0
    have b1 := blk_cell HBR.out 2 _ rfl
    by_cases hlt : k < t.ss.length
    · obtain ⟨b, o, rfl, hb, hcell⟩ := (HS.out.ext HXR.out).cell (by omega)
      have c0 := hcell k t.ss[k] (List.getElem?_eq_getElem hlt) 0 _ rfl
      have HTK : Hid (t.ss.take (k + 1) = t.ss.take k ++ [t.ss[k]]) := Lib.hid (List.take_succ_eq_append_getElem hlt)
      have HOS := Lib.hid (Tb.okS_snoc (t.ss.take k) t.ss[k])
      have HST : Hid (Tb.okS (t.ss.take (k + 1)) = false → t.may = false) := Lib.hid fun h => by unfold Tb.may; rw [Tb.okS_take h, Bool.and_false, Bool.false_and]
      simp only [Nat.mul_one, Nat.add_zero] at c0
      clear hcell
      generalize t.ss[k] = s at *
      rw [← HTK.out, HOK.out, Bool.true_and] at HOS
      have HC := Lib.hid (maytext_any s)
      have z0 := blk_cell HRR.out 0 _ rfl
      have z1 := blk_cell HRR.out 1 _ rfl
      have z2 := blk_cell HRR.out 2 _ rfl
      have z3 := blk_cell HRR.out 3 _ rfl
      obtain ⟨y0, y1, y2, y3⟩ := frozen4 HRR.out
      cases hm : Tb.mayS s with
      | false =>
        rw [hm] at HC
        have HF := Lib.hid (HST.out (by rw [HOS.out, hm]; rfl))
        go_wp2_with fail
        refine (HC.out _).mono ?_
        rintro e w' ⟨rfl, rfl⟩
        go_wp2
        (have hz := set4_at rfl HRR.out (.slice none 0 0) (.slice none 0 0) (.map none) (.map none); obtain ⟨t0, t1, t2, t3⟩ := cells4 hz; have hux := upd4 (w.heap.size + 1) wr (.slice none 0 0) (.slice none 0 0) (.map none) (.map none); refine bodyPost_ret (v := .tuple #[.agg #[.slice none 0 0, .slice none 0 0, .map none, .map none], .bool false]) (by simp [results, Try.results23, go_sem, t0, t1, t2, t3]) rfl ⟨HXR.out.upd hux (by omega), ?_⟩; rw [if_neg (by rw [HF.out]; simp)])
      | true =>
        rw [hm] at HC
        rw [hm, Bool.true_and] at HOS
        have hle := Tb.mayS_le hm
        have hml : s.size ≤ maxLen := by unfold maxLen; omega
        have hlook := look_text HM.out s hml
        by_cases hin : s ∈ t.ss.take k
        · have hpos := Tb.idx_pos.2 hin
          have HF := Lib.hid (HST.out (by rw [HOS.out]; simpa using hin))
          have HW : Hid (∀ n : Int, Tb.idx (t.ss.take k) s = n → 0 < n) := Lib.hid fun n hn => by rw [← hn]; exact hpos
          obtain ⟨n, hn⟩ : ∃ n, Tb.idx (t.ss.take k) s = n := ⟨_, rfl⟩
          have hnp := HW.out n hn
          rw [hn] at hlook
          clear hpos hn HW
          go_wp2_with fail
          refine (HC.out _).mono ?_
          rintro e w' ⟨rfl, rfl⟩
          go_wp2
          (have hz := set4_at rfl HRR.out (.slice none 0 0) (.slice none 0 0) (.map none) (.map none); obtain ⟨t0, t1, t2, t3⟩ := cells4 hz; have hux := upd4 (w.heap.size + 1) wr (.slice none 0 0) (.slice none 0 0) (.map none) (.map none); refine bodyPost_ret (v := .tuple #[.agg #[.slice none 0 0, .slice none 0 0, .map none, .map none], .bool false]) (by simp [results, Try.results23, go_sem, t0, t1, t2, t3]) rfl ⟨HXR.out.upd hux (by omega), ?_⟩; rw [if_neg (by rw [HF.out]; simp)])
        · have h0 : Tb.idx (t.ss.take k) s = 0 := Tb.idx_zero.2 hin
          rw [h0] at hlook
          have HOK1 : Hid (Tb.okS (t.ss.take (k + 1)) = true) := Lib.hid (by rw [HOS.out]; simpa using hin)
          have hlen : (t.ss.take k).length = k := by rw [List.length_take]; omega
          obtain ⟨w9, hr9, hq9, hu9⟩ := store_text HM.out (f' := Tb.idx (t.ss.take (k + 1))) (by unfold maxLen; omega) s hml ((k : Int) + 1) (by rw [HTK.out, Tb.idx_snoc hin, if_pos rfl, hlen]) (fun y hy => by rw [HTK.out, Tb.idx_snoc hin, if_neg hy])
          have HR9 := Lib.hid hr9
          have HQ9 := Lib.hid hq9
          have HU9 := Lib.hid hu9
          clear hr9 hq9 hu9 hlen h0 z0 z1 z2 z3 y0 y1 y2 y3
          go_wp2_with fail
          refine (HC.out _).mono ?_
          rintro e w' ⟨rfl, rfl⟩
          go_wp2_with (at_mapUpdate; refine mapUpdate_run rfl _ _ _ 47 rfl (.map (some g)) (.string s) (.int .i64 ((k : Int) + 1)) rfl rfl rfl HR9.out ?_)
          go_roundw
          case rel => exact ⟨k + 1, by omega, by go_num, HOK1.out, HQ9.out, HU.out.trans HU9.out⟩
          case measure => simp [intOf]; omega
    · obtain rfl : k = t.ss.length := by omega
      rw [List.take_length] at HM HOK
      clear b1
      have k1 := blk_cell HTR.out 1 _ rfl
      go_wp2_with fail
      obtain ⟨wA, rfl⟩ : ∃ wA, wA = wr := ⟨_, rfl⟩
      have H8A : Hid (MapQ stackKind intKind 0 wA g' 0 fun _ => 0) := Lib.hid (H8.out.upd HU.out (Ne.symm hgg))
      have HMA := Lib.hid HM.out
      have HOKA := Lib.hid HOK.out
      have HXA := Lib.hid HXR.out
      have HBA := Lib.hid HBR.out
      have HTA := Lib.hid HTR.out
      have HRA := Lib.hid HRR.out
      clear HM HOK HXR HBR HTR HRR HB8 HT8 HR8 H8 H4 HU k1
      go_loopw [59] (fun iv wr => ∃ k : Nat, k ≤ t.ks.length ∧ iv = .int .i64 k ∧ Tb.okK t.ss.length (t.ks.take k) = true ∧ MapQ stackKind intKind 0 wr g' k (Tb.idx (t.ks.take k)) ∧ Upd g' wA wr) (fun iv _ => t.ks.length - (intOf iv).toNat)
      case atStart =>
        refine ⟨0, by omega, rfl, rfl, ?_, Upd.refl g' wA⟩
        have e : Tb.idx (t.ks.take 0) = fun _ => 0 := funext fun x => by simp [Tb.idx]
        rw [e]
        exact H8A.out
      case round =>
        obtain ⟨k, hk, rfl, hok, hmq, hu⟩ := hrel
        have HU := Lib.hid hu
        have HM := Lib.hid hmq
        have HOK := Lib.hid hok
        have HXR : Hid (Ext w wr) := Lib.hid (HXA.out.upd hu (by have := HX1.out.size; omega))
        have HBR : Hid (wr.heap[h]? = _) := Lib.hid (hu.blk HBA.out (Ne.symm hgh'))
        have HTR : Hid (wr.heap[w.heap.size]? = _) := Lib.hid (hu.blk HTA.out (by omega))
        have HRR : Hid (wr.heap[w.heap.size + 1]? = _) := Lib.hid (hu.blk HRA.out (by omega))
        have HMR : Hid (MapQ textKind intKind 0 wr g t.ss.length (Tb.idx t.ss)) := Lib.hid (HMA.out.upd hu hgg)
        clear hu hmq hok
        by_cases hlt : k < t.ks.length
        · obtain ⟨l, hl⟩ : ∃ l, t.ks[k]? = some l := ⟨_, List.getElem?_eq_getElem hlt⟩
          obtain ⟨b, o, u, rfl, hb, hcell, hrow⟩ := (HK.out.ext HXR.out).one hl
          have HL := Lib.hid hrow
          have HTK : Hid (t.ks.take (k + 1) = t.ks.take k ++ [l]) := Lib.hid (by
            have h1 := (List.getElem?_eq_some_iff.1 hl).2
            rw [List.take_succ_eq_append_getElem hlt, h1])
          have HOS := Lib.hid (Tb.okK_snoc t.ss.length (t.ks.take k) l)
          have HST : Hid (Tb.okK t.ss.length (t.ks.take (k + 1)) = false → t.may = false) := Lib.hid fun h => by unfold Tb.may; rw [Tb.okK_take h, Bool.and_false]
          rw [← HTK.out, HOK.out, Bool.true_and] at HOS
          have HC := Lib.hid (maystack_any u l t.ss.length wr hrow (by omega))
          obtain ⟨Au, cu, rfl, hcu⟩ := hrow.form
          have k0 := blk_cell HTR.out 0 _ rfl
          clear hl hrow
          cases hm : Tb.mayK t.ss.length l with
          | false =>
            rw [hm] at HC
            have HF := Lib.hid (HST.out (by rw [HOS.out, hm]; rfl))
            go_wp2_with fail
            refine HC.out.mono ?_
            rintro e w' ⟨rfl, hx'⟩
            have HRW := Lib.hid (hx'.blk HRR.out)
            have HXW := Lib.hid (HXR.out.trans hx')
            have z0 := blk_cell HRW.out 0 _ rfl
            have z1 := blk_cell HRW.out 1 _ rfl
            have z2 := blk_cell HRW.out 2 _ rfl
            have z3 := blk_cell HRW.out 3 _ rfl
            obtain ⟨y0, y1, y2, y3⟩ := frozen4 HRW.out
            clear hx'
            go_wp2
            (have hz := set4_at rfl HRW.out (.slice none 0 0) (.slice none 0 0) (.map none) (.map none); obtain ⟨t0, t1, t2, t3⟩ := cells4 hz; have hux := upd4 (w.heap.size + 1) w' (.slice none 0 0) (.slice none 0 0) (.map none) (.map none); refine bodyPost_ret (v := .tuple #[.agg #[.slice none 0 0, .slice none 0 0, .map none, .map none], .bool false]) (by simp [results, Try.results23, go_sem, t0, t1, t2, t3]) rfl ⟨HXW.out.upd hux (by omega), ?_⟩; rw [if_neg (by rw [HF.out]; simp)])
          | true =>
            rw [hm] at HC
            rw [hm, Bool.true_and] at HOS
            have HKD := Lib.hid (Tb.keyed_of hm (by omega))
            obtain ⟨x0, x1, x2, hkv⟩ : ∃ x0 x1 x2, Tb.keyV l = .agg #[.int .i64 x0, .int .i64 x1, .string x2] := ⟨_, _, _, rfl⟩
            have HKV := Lib.hid hkv
            go_wp2_with fail
            refine HC.out.mono ?_
            rintro e w2 ⟨rfl, hx2⟩
            have HKEY := Lib.hid (key_any _ l w2 (HL.out.ext hx2) HKD.out)
            have HM2 := Lib.hid (HM.out.ext hx2)
            have HX2 := Lib.hid hx2
            clear hx2 hkv k0 HC
            go_wp2_with fail
            refine HKEY.out.mono ?_
            rintro e w3 ⟨rfl, hx3⟩
            rw [HKV.out]
            obtain ⟨w4, hw4⟩ : ∃ w4, w3.alloc (.cells #[.int .i64 x0, .int .i64 x1, .string x2] 62) = w4 := ⟨_, rfl⟩
            obtain ⟨n, hn⟩ : ∃ n, w3.heap.size = n := ⟨_, rfl⟩
            have hq4 : w4.heap[n]? = some (.cells #[.int .i64 x0, .int .i64 x1, .string x2] 62 (0, 0)) := by rw [← hw4, ← hn]; exact blk_new w3 _
            have hx4 : Ext wr w4 := by rw [← hw4]; exact (HX2.out.trans hx3).alloc _
            have HX4 := Lib.hid hx4
            have HM4 := Lib.hid (HM.out.ext hx4)
            have HB4 := Lib.hid (hx4.blk HBR.out)
            have HR4 := Lib.hid (hx4.blk HRR.out)
            have HW4 := Lib.hid hw4
            have HN4 := Lib.hid hn
            have HQ4 := Lib.hid hq4
            have hlook := look_stack HM4.out l HKD.out
            rw [HKV.out] at hlook
            have n0 := blk_cell HQ4.out 0 _ rfl
            have n1 := blk_cell HQ4.out 1 _ rfl
            have n2 := blk_cell HQ4.out 2 _ rfl
            have m2 := blk_cell HB4.out 3 _ rfl
            clear hx3 hx4 hw4 hn hq4 HKEY HM2
            by_cases hin : l ∈ t.ks.take k
            · have HF := Lib.hid (HST.out (by rw [HOS.out]; simpa using hin))
              have HPOS := Lib.hid (Tb.idx_pos.2 hin)
              obtain ⟨q, hq⟩ : ∃ q, Tb.idx (t.ks.take k) l = q := ⟨_, rfl⟩
              have hqp : 0 < q := by have := HPOS.out; omega
              rw [hq] at hlook
              have z0 := blk_cell HR4.out 0 _ rfl
              have z1 := blk_cell HR4.out 1 _ rfl
              have z2 := blk_cell HR4.out 2 _ rfl
              have z3 := blk_cell HR4.out 3 _ rfl
              obtain ⟨y0, y1, y2, y3⟩ := frozen4 HR4.out
              have HXW := Lib.hid (HXR.out.trans HX4.out)
              clear hq
              go_wp2_with (rw [HW4.out, HN4.out])
              (have hz := set4_at rfl HR4.out (.slice none 0 0) (.slice none 0 0) (.map none) (.map none); obtain ⟨t0, t1, t2, t3⟩ := cells4 hz; have hux := upd4 (w.heap.size + 1) w4 (.slice none 0 0) (.slice none 0 0) (.map none) (.map none); refine bodyPost_ret (v := .tuple #[.agg #[.slice none 0 0, .slice none 0 0, .map none, .map none], .bool false]) (by simp [results, Try.results23, go_sem, t0, t1, t2, t3]) rfl ⟨HXW.out.upd hux (by omega), ?_⟩; rw [if_neg (by rw [HF.out]; simp)])
            · have HOK1 : Hid (Tb.okK t.ss.length (t.ks.take (k + 1)) = true) := Lib.hid (by rw [HOS.out]; simpa using hin)
              have h0 : Tb.idx (t.ks.take k) l = 0 := Tb.idx_zero.2 hin
              rw [h0] at hlook
              have hlen : (t.ks.take k).length = k := by rw [List.length_take]; omega
              obtain ⟨w9, hr9, hq9, hu9⟩ := store_stack HM4.out (f' := Tb.idx (t.ks.take (k + 1))) (by unfold maxLen; omega) l HKD.out ((k : Int) + 1) (by rw [HTK.out, Tb.idx_snoc hin, if_pos rfl, hlen]) (fun y hy => by rw [HTK.out, Tb.idx_snoc hin, if_neg hy])
              rw [HKV.out] at hr9
              have HR9 := Lib.hid hr9
              have HQ9 := Lib.hid hq9
              have HU9 := Lib.hid hu9
              clear hr9 hq9 hu9 hlen h0
              go_wp2_with (first | (at_mapUpdate; refine mapUpdate_run rfl _ _ _ 48 rfl (.map (some g')) (.agg #[.int .i64 x0, .int .i64 x1, .string x2]) (.int .i64 ((k : Int) + 1)) rfl rfl rfl HR9.out ?_) | rw [HW4.out, HN4.out])
              go_roundw
              case rel => exact ⟨k + 1, by omega, by go_num, HOK1.out, HQ9.out, (HU.out.trans (Upd.ext HX4.out)).trans HU9.out⟩
              case measure => simp [intOf]; omega
        · obtain rfl : k = t.ks.length := by omega
          rw [List.take_length] at HM HOK
          have HT : Hid (t.may = true) := Lib.hid (by unfold Tb.may; rw [HOKA.out, HOK.out, decide_eq_true ⟨by omega, by omega⟩]; rfl)
          have z0 := blk_cell HRR.out 0 _ rfl
          have z1 := blk_cell HRR.out 1 _ rfl
          have z2 := blk_cell HRR.out 2 _ rfl
          have z3 := blk_cell HRR.out 3 _ rfl
          obtain ⟨y0, y1, y2, y3⟩ := frozen4 HRR.out
          obtain ⟨b0, b1, b2, b3⟩ := cells4 HBR.out
          go_wp2
          have hz := set4_at rfl HRR.out (.slice A t.ss.length c) (.slice B t.ks.length d) (.map (some g)) (.map (some g'))
          obtain ⟨t0, t1, t2, t3⟩ := cells4 hz
          have hux := upd4 (w.heap.size + 1) wr (.slice A t.ss.length c) (.slice B t.ks.length d) (.map (some g)) (.map (some g'))
          refine bodyPost_ret (v := .tuple #[.agg #[.slice A t.ss.length c, .slice B t.ks.length d, .map (some g), .map (some g')], .bool true]) (by simp [results, Try.results23, go_sem, t0, t1, t2, t3]) rfl ⟨HXR.out.upd hux (by omega), ?_⟩
          rw [if_pos HT.out]
          exact ⟨g, g', rfl, by omega, by omega, hgg, HMR.out.upd hux (by omega), HM.out.upd hux (by omega)⟩
end Go.Proofs.Ythkalaohaholaaa
