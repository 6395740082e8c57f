/- The document's own slots of layer 11: Ids. -/
import Derived.Test.YteannfenkmejjaaRef11
import Derived.Deep.AppendLies
namespace Go.Proofs.Yteannfenkmejjaa
open Go.RowKit Go.Lib
section
variable {w w' : World} {q i : Nat} {R : RT11} {x : Bool × Int × Nat} {id : Int}

set_option maxRecDepth 100000 in
set_option maxHeartbeats 2000000 in
theorem rids11 (h : R11 w q R) : Calls Try.prog 12 #[.pointer (some ⟨q, 0, none⟩)] w fun e w' => ∃ v, e = .returned v ∧ LsI w' w.heap.size v (idsL (absT R)) ∧ Below w.heap.size w w' := by
  obtain ⟨i0, hi, hz0, hz1, hz2⟩ := info_parts Try.infoInt7
  have HI := Lib.hid hi; have HZ0 := Lib.hid hz0; have HZ1 := Lib.hid hz1; have HZ2 := Lib.hid hz2
  have H := Lib.hid h
  clear hi hz0 hz1 hz2 h
  go_enter Try.func12, Try.ntmps12
  go_wp2
  go_loopw [3, 4] (fun v i wr => ∃ k : Nat, k ≤ 8 ∧ i = .int .i64 (k : Int) ∧ ∃ n, n ≤ 8 ∧ n = (idsU (absT R) k).length ∧ wr.ownsRow w.heap.size 3 1 v n ((idsU (absT R) k).map encI) ∧ Below w.heap.size w wr) (fun _ i _ => 8 - (intOf i).toNat)
  case atStart => exact ⟨0, by omega, rfl, 0, by omega, rfl, World.ownsRow_nil _ _ _ _, Below.refl _ _⟩
  case round =>
    obtain ⟨k, hk, rfl, n, hn8, hnl, hO, hB⟩ := hrel
    have HO := Lib.hid hO; have HB := Lib.hid hB; have HNL := Lib.hid hnl
    have HR := Lib.hid (H.out.below' hB)
    clear hO hB hnl
    by_cases hk8 : k < 8
    · have hkl : (k : Int) < 8 := by omega
      obtain ⟨x, hx, hq⟩ := HR.out.some hk8
      have ci := HR.out.box.at k (refV_is hx)
      have hh := Lib.hid (absT_has hx)
      have hs := Lib.hid (absT_seq hx)
      have ID := Lib.hid (rid11 HR.out hx hk8 hq)
      obtain ⟨b, hb⟩ : ∃ b, x.1 = b := ⟨_, rfl⟩
      obtain ⟨y, hy⟩ : ∃ y, idS k x.2.2 = y := ⟨_, rfl⟩
      have HBB := Lib.hid hb; have HY := Lib.hid hy
      rw [hb] at ci
      rw [hy] at ID
      clear hx hq hb hy
      cases b with
      | false =>
        go_wp2
        go_roundw
        case rel => exact ⟨k + 1, by omega, by go_num, n, hn8, by rw [HNL.out, idsU_no (by rw [hh.out, HBB.out])], by rw [idsU_no (by rw [hh.out, HBB.out])]; exact HO.out, HB.out⟩
        case measure => simp [intOf]; omega
      | true =>
        have hU := Lib.hid (idsU_yes (L := absT R) (i := k) (by rw [hh.out, HBB.out]))
        have hlen : n + 1 ≤ 8 := by
          have h1 := congrArg List.length hU.out
          rw [List.length_append, ← HNL.out] at h1
          have h2 := idsU_len (L := absT R) (k + 1)
          simp at h1
          omega
        go_wp2_with (first
          | (go_at_call 29; refine ID.out.mono ?_; rintro e w' ⟨rfl, rfl⟩)
          | (at_builtin; refine wpList_append_own _ rfl (.tmp 15) (.tmp 19) 34 rfl w.heap.size 3 i0 (.int .i64 0) 1 8 Try.underlying34 HI.out HZ0.out HZ1.out HZ2.out rfl (by decide) u3 n ((idsU (absT R) k).map encI) rfl (HO.out.alloc _) ⟨_, 0, none⟩ 1 1 [.int .i64 y] rfl rfl (cell_one_new _ _ _) (by simp [Value.oneCell']) (by unfold maxLen; omega) (by omega) (by have := HB.out.size; simp; omega) ?_; intro v2 w2 hown2 hgrow2 _; have HO2 := Lib.hid hown2; have HG2 := Lib.hid ((HB.out.alloc HB.out.size _).grown hgrow2 (by have := HB.out.size; simp; omega) (fun b e => HO.out.lt b e |>.1)); clear hown2 hgrow2))
        go_roundw
        case rel => exact ⟨k + 1, by omega, by go_num, n + 1, hlen, by rw [hU.out, List.length_append, ← HNL.out]; rfl, by rw [hU.out, List.map_append, hs.out, HY.out]; exact HO2.out, HG2.out⟩
        case measure => simp [intOf]; omega
    · obtain rfl : k = 8 := by omega
      go_wp2
      go_ret
      exact ⟨_, rfl, LsI.own HO.out HNL.out, HB.out⟩
end
end Go.Proofs.Yteannfenkmejjaa
