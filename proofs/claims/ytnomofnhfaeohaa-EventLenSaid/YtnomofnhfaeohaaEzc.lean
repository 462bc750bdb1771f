/-
  The walk of the statement EventLen: plain facts on bytes, and all cases.
-/
import Derived.Test.YtnomofnhfaeohaaEza
set_option linter.unusedVariables false
set_option linter.unusedSimpArgs false
namespace Go.Proofs.Ytnomofnhfaeohaa
open Go.RowKit

theorem Ev.enc_list {e : Ev} (h : e.may = true) : e.enc.data.toList = e.encL := by
  unfold Ev.enc; rw [if_pos h]
theorem Ev.enc_first {e : Ev} (h : e.may = true) (h0 : 0 < e.enc.size) : e.enc[0] = UInt8.ofNat e.kind.toNat := by
  have h1 : e.enc = ⟨e.encL.toArray⟩ := by unfold Ev.enc; rw [if_pos h]
  have key : ∀ (b : ByteArray) (hb : 0 < b.size), b = ⟨e.encL.toArray⟩ → b[0] = UInt8.ofNat e.kind.toNat := by
    intro b hb hh
    subst hh
    rfl
  exact key _ h0 h1
theorem Ev.enc_behind {e : Ev} (h : e.may = true) : (e.enc.extract (1 + (Va.pz e.dt).size) e.enc.size).toList = e.tailL := by
  rw [ByteArray.toList_eq, ByteArray.data_extract, Array.toList_extract, Ev.enc_list h, Ev.pz_put (Ev.may_dt h)]
  have hs : e.enc.size = e.encL.length := Ev.enc_size h
  rw [hs]
  unfold Ev.encL
  simp [List.extract]
  rw [Nat.add_comm 1, List.drop_succ_cons, List.drop_left]
  rw [List.take_of_length_le (by omega)]
theorem Ev.short_one {e : Ev} (h : Ev.short [e] = true) : e.args.length ≤ 20 ∧ e.text.size ≤ 300 := by
  unfold Ev.short at h
  simp [Ev.short1] at h
  exact h
set_option maxRecDepth 100000 in
set_option maxHeartbeats 1000000 in
theorem walk_EventLen (v : Value) (e : Ev) (dt : Int) (w : World) (hv : EvAt w v e) (hin : EvIn e) (hts : e.text.size ≤ 140737488351232) (hw : (Lit.int .i64 dt).wf = true) :
    Calls Try.prog 5 #[v, .int .i64 dt] w fun e w' => e = .returned (.bool true) ∧ Ext w w' := by
  obtain ⟨A, c, rfl, hI⟩ := hv
  obtain ⟨hn, _⟩ := hin
  obtain ⟨k, d, xs, t⟩ := e
  simp only at hn hts hI ⊢
  cases hsh : Ev.short [⟨k, d, xs, t⟩] with
  | false => exact elen_out A c k d xs t dt w hI hn hts false hsh _ rfl (.inl rfl)
  | true =>
    obtain ⟨h20, h300⟩ := Ev.short_one hsh
    simp only at h20 h300
    cases hm : Ev.may ⟨k, d, xs, t⟩ with
    | false => exact elen_out A c k d xs t dt w hI hn hts true hsh _ rfl (.inr (.inl (by unfold Ev.enc; rw [hm]; simp)))
    | true =>
      obtain ⟨h1, h2, h0⟩ := Ev.enc_ne hm
      by_cases hdt : dt < 0 ∨ 4611686018427387904 ≤ dt
      · exact elen_out A c k d xs t dt w hI hn hts true hsh _ rfl (.inr (.inr ⟨h1, h2, hdt⟩))
      · have h3 : 0 ≤ dt := by omega
        have h4 : dt < 4611686018427387904 := by omega
        have hok : Ev.ok dt = true := by unfold Ev.ok; simp; omega
        have hm2 := Ev.may_dt_change hm hok
        obtain ⟨_, _, h02⟩ := Ev.enc_ne hm2
        have hb0 : ((((Ev.enc ⟨k, dt, xs, t⟩)[0].toNat : Nat) : Int) == (((Ev.enc ⟨k, d, xs, t⟩)[0].toNat : Nat) : Int)) = true := by
          rw [Ev.enc_first hm h0, Ev.enc_first hm2 h02]; simp
        have h36 : (((Ev.enc ⟨k, dt, xs, t⟩).extract (1 + (Va.pz dt).size) (Ev.enc ⟨k, dt, xs, t⟩).size).toList == ((Ev.enc ⟨k, d, xs, t⟩).extract (1 + (Va.pz d).size) (Ev.enc ⟨k, d, xs, t⟩).size).toList) = true := by
          have e1 := Ev.enc_behind hm
          have e2 := Ev.enc_behind hm2
          simp only at e1 e2
          rw [e1, e2]
          exact beq_iff_eq.2 rfl
        have hEs : (Ev.enc ⟨k, d, xs, t⟩).size = 1 + (Va.pz d).size + (Ev.tailL ⟨k, d, xs, t⟩).length := by
          rw [Ev.enc_size hm, Ev.encL_len]; unfold Ev.len; rw [Ev.pz_put (Ev.may_dt hm)]
        have hFs : (Ev.enc ⟨k, dt, xs, t⟩).size = 1 + (Va.pz dt).size + (Ev.tailL ⟨k, dt, xs, t⟩).length := by
          rw [Ev.enc_size hm2, Ev.encL_len]; unfold Ev.len; rw [Ev.pz_put (Ev.may_dt hm2)]
        cases hx : Ki.exp k with
        | true =>
          have hok2 : Ev.ok (t.size : Int) = true := by unfold Ev.ok; simp; omega
          have htl : ∀ y, (Ev.tailL ⟨k, y, xs, t⟩).length = (Va.pz (t.size : Int)).size + t.size := fun y => by
            unfold Ev.tailL; rw [if_pos (by exact hx), Ev.pz_put hok2]; simp
          rw [htl] at hEs hFs
          exact elen_exp A c k d xs t dt w hI hn hts hsh h20 _ _ rfl rfl h1 h2 h3 h4 hm hx (Ev.may_exp hm hx) _ rfl (pz_nine _) h300 _ _ rfl rfl (pz_nine _) (pz_nine _) h0 h02 hb0 h36 hEs hFs
        | false =>
          have htl : ∀ y, (Ev.tailL ⟨k, y, xs, t⟩).length = (Wi.cat xs).length := fun y => by
            unfold Ev.tailL; rw [if_neg (by simp [hx])]
          rw [htl] at hEs hFs
          exact elen_known A c k d xs t dt w hI hn hts hsh h20 _ _ rfl rfl h1 h2 h3 h4 hm hx _ _ rfl rfl (pz_nine _) (pz_nine _) h0 h02 hb0 h36 hEs hFs

end Go.Proofs.Ytnomofnhfaeohaa
