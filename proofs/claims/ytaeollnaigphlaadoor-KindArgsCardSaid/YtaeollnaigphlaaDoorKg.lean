/-
  A table of kinds: what the function handed to the Once does.
-/
import Derived.Test.YtaeollnaigphlaaDoorKf
import Derived.Test.YtaeollnaigphlaaDoorGn
import Derived.StillTailTactics
set_option linter.unusedVariables false
set_option linter.unusedSimpArgs false
namespace Go.Proofs.YtaeollnaigphlaaDoor
open Go.RowKit Go.Maps

def rowCells : List Value → Option (DataW Unit × List MemPlace)
  | [.string s, .bool b] => some (.agg [.lit (.string s.data.toList), .lit (.bool b)], [])
  | _ => none
def rowElem : Value → Option (DataW Unit × List MemPlace)
  | .agg cs => rowCells cs.toList
  | _ => none
/-- A row: a name, and whether it is known. -/
def rowK : MapKind (ByteArray × Bool) where
  val p := .agg #[.string p.1, .bool p.2]
  dat p := .agg [.lit (.string p.1.data.toList), .lit (.bool p.2)]
  elem := rowElem
  enc _ := rfl
  inv := by
    intro v p ps h
    unfold rowElem at h
    split at h
    · rename_i cs
      obtain ⟨l⟩ := cs
      simp only at h
      unfold rowCells at h
      split at h
      · rename_i a b
        simp only [Option.some.injEq, Prod.mk.injEq] at h
        have h1 := h.1
        simp only [DataW.agg.injEq, List.cons.injEq, DataW.lit.injEq, Lit.string.injEq, Lit.bool.injEq, and_true] at h1
        obtain ⟨ha, hb⟩ := h1
        rw [ByteArray.ext (Array.toList_inj.1 ha), hb]
      · cases h
    · cases h
def rowZ : ByteArray × Bool := (⟨#[]⟩, false)
/-- What a table says of a kind. -/
def Ki.row (k : Int) : ByteArray × Bool := (Ki.name k, Ki.known k)
abbrev RowMap (w : World) (b n : Nat) (f : Int → ByteArray × Bool) : Prop := MapB rowK rowZ Tryd.prog 3 w b n f
theorem rowzero (w : World) : (zeroValue 54).run Tryd.prog w = .ok (rowK.val rowZ) w := by kernel_rfl
theorem Ki.row_none {k : Int} (h : Ki.name k = ⟨#[]⟩) : Ki.row k = rowZ := by
  have hk : Ki.known k = false := by
    cases hk : Ki.known k with
    | false => rfl
    | true => exact absurd (by rw [h, Lib.toList_data]) (Ki.name_ne (.inl hk))
  unfold Ki.row rowZ
  rw [h, hk]
/-- What is laid when the first so many kinds are. -/
def rowsTo (k : Nat) (x : Int) : ByteArray × Bool := if 1 ≤ x ∧ x < k then Ki.row x else rowZ
theorem rowsTo_all (x : Int) : rowsTo 256 x = Ki.row x := by
  unfold rowsTo
  split
  · rfl
  · rename_i h
    symm
    refine Ki.row_none (Ki.name_none ?_ ?_)
    · unfold Ki.exp; exact decide_eq_false (by omega)
    · unfold Ki.known; exact decide_eq_false (by omega)
theorem rowsTo_next {k : Nat} (hk : 1 ≤ k) : (fun y : Int => if y = (k : Int) then Ki.row k else rowsTo k y) = rowsTo (k + 1) := by
  funext y
  unfold rowsTo
  by_cases h : y = (k : Int)
  · subst h
    rw [if_pos rfl, if_pos (by omega)]
  · rw [if_neg h]
    by_cases h2 : 1 ≤ y ∧ y < (k : Int)
    · rw [if_pos h2, if_pos (by omega)]
    · rw [if_neg h2, if_neg (by omega)]
theorem rowsTo_skip {k : Nat} (h : Ki.name k = ⟨#[]⟩) : rowsTo (k + 1) = rowsTo k := by
  funext y
  unfold rowsTo
  by_cases h2 : 1 ≤ y ∧ y < (k : Int)
  · rw [if_pos (by omega), if_pos h2]
  · rw [if_neg h2]
    split
    · obtain rfl : y = (k : Int) := by omega
      exact Ki.row_none h
    · rfl
theorem rowsTo_one : rowsTo 1 = fun _ => rowZ := by
  funext y
  unfold rowsTo
  rw [if_neg (by omega)]
/-- A table of kinds in memory: done, the lock, what the rows are, how often it was asked. -/
def KBox (w : World) (b : Nat) (d st : Int) (rows : Value) (n : Int) : Prop := w.heap[b]? = some (.cells #[.int .u32 d, .int .i32 st, .int .u32 0, rows, .int .i64 n] 52 (0, 0))
theorem known_eq (k : Int) (b : Bool) (h : Ki.known k = b) (w : World) : Calls Tryd.prog 13 #[.int .i64 k] w fun e w' => e = .returned (.bool b) ∧ w = w' := by subst h; exact known_any k w
theorem kmapUpdate_run {P : Program} {ops : Array Oper} {rest : List Oper} {o : Oper} {a : Act} {w w' : World} {Q : Exit → Act → World → Prop} (hg : o.guard = none) (m x v : Operand) (t : TypeId) (hop : o.op = Op.mapUpdate t m x v)
    (mv key val : Value) (hm : a.eval m = mv) (hx : a.eval x = key) (hv : a.eval v = val) (hr : (Instr.mapUpdate t mv key val).run P w = .ok () w') (h : wpList P ops Q rest (a.put o.dst undef) w') : wpList P ops Q (o :: rest) a w := by
  refine wpList_plain hg fun K' hK' => ?_
  unfold Oper.wp
  simp [execOp, hop, hm, hx, hv, hr, Result.andThen]
  exact hK' _ _ h
def KClosP (b : Nat) (d st n : Int) (w : World) (e : Ending) (w' : World) : Prop := ∃ mb, e = .returned (.tuple #[]) ∧ KBox w' b d st (.map (some mb)) n ∧ RowMap w' mb 256 Ki.row ∧ Upd b w w' ∧ w.heap.size ≤ mb
set_option maxRecDepth 100000 in
set_option maxHeartbeats 2000000 in
theorem kclos_any (b p : Nat) (d st n : Int) (r0 : Value) (w0 w : World) (ht : Tab w0) (hw0 : Upd b w0 w) (htb : w0.heap.size ≤ b) (hp : w.cell? ⟨p, 0, none⟩ = some (.pointer (some ⟨b, 0, none⟩))) (hpb : p ≠ b) (hb : KBox w b d st r0 n) :
    Calls Tryd.prog 30 #[.pointer (some ⟨p, 0, none⟩)] w (KClosP b d st n w) := by
  have HT := Lib.hid fun v (hv : Upd b w v) => ht.ext (Ext.upd (Ext.refl _) (Upd.trans hw0 hv) htb)
  have HB := Lib.hid hb
  have HP := Lib.hid hp
  have hpl : p < w.heap.size := World.block_lt_of_cell? w _ hp
  have hmk : ∀ w, (Instr.makeMap 47 none).run Tryd.prog w = .ok (.map (some w.heap.size)) (w.alloc (.map #[] 0)) := fun w => by kernel_rfl
  have hbl := blk_lt hb
  have HB1 := Lib.hid (blk_alloc hb (.map #[] 0))
  have c3 := blk_cell HB1.out 3 _ rfl
  have f3 := frozen_of_row _ _ 3 _ _ HB1.out
  have HM1 := Lib.hid (MapB.made (M := rowK) (z := rowZ) (P := Tryd.prog) (k := 3) w)
  clear ht hw0 hb
  have hx0 : ∀ v, Upd b w v → v.cell? ⟨p, 0, none⟩ = some (.pointer (some ⟨b, 0, none⟩)) := fun v hv => (World.grownBy.cell hv HP.out (by simpa using hpb))
  have HX0 := Lib.hid hx0
  have HTB := Lib.hid htb
  clear hx0 htb
  obtain ⟨ms, hms⟩ : ∃ ms, w.heap.size = ms := ⟨_, rfl⟩
  have HMS := Lib.hid hms
  go_enter Tryd.func30, Tryd.ntmps30
  go_wp2
  go_loopw [1] (fun kv wr => ∃ k : Nat, 1 ≤ k ∧ k ≤ 256 ∧ kv = .int .i64 k ∧ KBox wr b d st (.map (some ms)) n ∧ RowMap wr ms k (rowsTo k) ∧ Upd b w wr) (fun kv _ => 256 - (intOf kv).toNat)
  case atStart =>
    refine ⟨1, by omega, by omega, rfl, ?_, ?_, ?_⟩
    · exact blk_set HB1.out 3 _
    · have h1 := HM1.out
      rw [HMS.out] at h1
      rw [rowsTo_one]
      exact (h1.upd ((Upd.refl b _).set 3 _) (by omega)).mono (by omega)
    · exact (Upd.ext ((Ext.refl w).alloc _)).set 3 _
  case round =>
    obtain ⟨k, hk1, hk2, rfl, hkb, hkm, hku⟩ := hrel
    have HKB := Lib.hid hkb
    have HKM := Lib.hid hkm
    have HKU := Lib.hid hku
    clear hkb hkm hku
    by_cases hlt : k < 256
    · have hk := known_any (k : Int)
      obtain ⟨kn, hkn⟩ : ∃ kn, Ki.known k = kn := ⟨_, rfl⟩
      obtain ⟨nm, hnm⟩ : ∃ nm, Ki.name k = nm := ⟨_, rfl⟩
      have HNM := Lib.hid fun v (hv : Upd b w v) => kname_any k v (HT.out v hv)
      rw [hnm] at HNM
      by_cases he : nm.toList = []
      · have he2 : nm.toList.isEmpty = true := by rw [he]; rfl
        go_wp2_with fail
        refine (HNM.out wr HKU.out).mono ?_
        rintro e w2 ⟨rfl, hx2⟩
        have hs : rowsTo (k + 1) = rowsTo k := rowsTo_skip (by rw [hnm]; rw [Lib.toList_data] at he; exact ByteArray.ext (Array.toList_inj.1 he))
        have HS := Lib.hid hs
        have hms2 : ms < wr.heap.size := HKM.out.lt
        clear hs
        go_wp2
        go_roundw
        case rel => exact ⟨k + 1, by omega, by omega, by go_num, hx2.blk HKB.out, by rw [HS.out]; exact (HKM.out.ext hx2).mono (by omega), Upd.trans HKU.out (Upd.ext hx2)⟩
        case measure => simp [intOf]; omega
      · have he2 : nm.toList.isEmpty = false := by cases h : nm.toList with | nil => exact absurd h he | cons => rfl
        go_wp2_with fail
        refine (HNM.out wr HKU.out).mono ?_
        rintro e w2 ⟨rfl, hx2⟩
        have hms2 : ms < wr.heap.size := HKM.out.lt
        have HB2 := Lib.hid (hx2.blk HKB.out)
        have HM2 := Lib.hid (HKM.out.ext hx2)
        have HU2 := Lib.hid (Upd.trans HKU.out (Upd.ext hx2))
        have q1 := HX0.out w2 HU2.out
        have q2 := blk_cell HB2.out 3 _ rfl
        have HKN := Lib.hid (known_eq k kn hkn)
        go_wp2
        go_still_tail 9, (by kernel_rfl)
        still_call ((HKN.out w2.drew).mono (by rintro e w'' ⟨rfl, rfl⟩; exact ⟨rfl, rfl⟩))
        still_step
        refine wpStill_nil ?_
        change wpList _ _ _ _ _ w2.drew
        have hki : i64in (k : Int) := ⟨by omega, by omega⟩
        obtain ⟨w3, hr3, hm3, hg3⟩ := (HM2.out.ext (Ext.refl w2).drew).store (t := 47) (e := 54) Tryd.underlying3 Tryd.underlying47 (by unfold maxLen; omega) (k : Int) hki (nm, kn)
        have HM3 := Lib.hid hm3
        have HG3 := Lib.hid hg3
        clear hm3 hg3
        refine kmapUpdate_run rfl _ _ _ 47 rfl (.map (some ms)) (.int .i64 k) (rowK.val (nm, kn)) rfl rfl rfl hr3 ?_
        go_wp2
        go_roundw
        case rel =>
          refine ⟨k + 1, by omega, by omega, by go_num, Upd.blk HG3.out (HB2.out) (by omega), ?_, ?_⟩
          · have h := HM3.out
            have e : ((nm, kn) : ByteArray × Bool) = Ki.row k := by unfold Ki.row; rw [hnm, hkn]
            rw [e, rowsTo_next hk1] at h
            exact h
          · exact Upd.more (Upd.drew HU2.out) HG3.out (by omega)
        case measure => simp [intOf]; omega
    · obtain rfl : k = 256 := by omega
      go_wp2
      go_end0
      exact ⟨ms, rfl, HKB.out, by have := HKM.out; rw [show rowsTo 256 = Ki.row from funext rowsTo_all] at this; exact this, HKU.out, by rw [HMS.out]; exact Nat.le_refl _⟩

end Go.Proofs.YtaeollnaigphlaaDoor
