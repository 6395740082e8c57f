/- What the rows list of package pipe's four variables, as facts on the world in which a law begins (Sen). -/
import Derived.Test.YtpfldelmbigmbaaDoorPiErr
import Derived.Test.YtpfldelmbigmbaaDoorRows
import Derived.Stop.LaidErr
namespace Go.Proofs.YtpfldelmbigmbaaDoor
open Go.RowKit Go.Stop

theorem Tryd.g0 : Tryd.prog.globalNamed "taffrail/pipe.errNil" = some 0 := by kernel_rfl
theorem Tryd.g1 : Tryd.prog.globalNamed "taffrail/pipe.errArg" = some 1 := by kernel_rfl
theorem Tryd.g2 : Tryd.prog.globalNamed "taffrail/pipe.errWait" = some 2 := by kernel_rfl
theorem Tryd.g3 : Tryd.prog.globalNamed "taffrail/pipe.errBroken" = some 3 := by kernel_rfl
theorem Tryd.gt0 : (Tryd.prog.globals[0]?).map (·.type) = some 59 := by kernel_rfl
theorem Tryd.gt1 : (Tryd.prog.globals[1]?).map (·.type) = some 59 := by kernel_rfl
theorem Tryd.gt2 : (Tryd.prog.globals[2]?).map (·.type) = some 59 := by kernel_rfl
theorem Tryd.gt3 : (Tryd.prog.globals[3]?).map (·.type) = some 59 := by kernel_rfl
theorem Tryd.cellsE : Tryd.prog.cellsOf 125 = 1 := by kernel_rfl
theorem Tryd.cellsS : Tryd.prog.cellsOf 9 = 1 := by kernel_rfl
theorem Tryd.star : "*" ++ "errors.errorString" = "*errors.errorString" := by decide
theorem Tryd.rowE (u : TypeId) (h : Tryd.prog.typeName? 3 u = some "*errors.errorString") : u = 100 :=
  typeName_ptr_named (nm := "errors.errorString") (by rw [Tryd.star]; kernel_rfl) (by kernel_rfl) (by decide) u (by rw [Tryd.star]; exact h)

set_option maxRecDepth 100000 in
set_option maxHeartbeats 1000000 in
/-- the four of the list, all sentinels of one type, each at a place of its own. -/
theorem sen_of_laid {W : World} (h : laidMet Tryd.prog [("taffrail/pipe.errNil", Rows.laid_taffrail_pipe_errNil), ("taffrail/pipe.errArg", Rows.laid_taffrail_pipe_errArg), ("taffrail/pipe.errWait", Rows.laid_taffrail_pipe_errWait), ("taffrail/pipe.errBroken", Rows.laid_taffrail_pipe_errBroken)] W) :
    ∃ A : Fin 4 → Addr, Sen W.heap.size A W := by
  obtain ⟨ps, ⟨g0, t0, cs0, f0, p0, q0, hg0, ht0, hv0, hd0, ⟨g1, t1, cs1, f1, p1, q1, hg1, ht1, hv1, hd1, ⟨g2, t2, cs2, f2, p2, q2, hg2, ht2, hv2, hd2, ⟨g3, t3, cs3, f3, p3, q3, hg3, ht3, hv3, hd3, _, e3⟩, e2⟩, e1⟩, e0⟩, hnd, hrows⟩ := h
  obtain rfl := Option.some.inj (Tryd.g0.symm.trans hg0)
  obtain rfl := Option.some.inj (Tryd.g1.symm.trans hg1)
  obtain rfl := Option.some.inj (Tryd.g2.symm.trans hg2)
  obtain rfl := Option.some.inj (Tryd.g3.symm.trans hg3)
  obtain rfl := Option.some.inj (Tryd.gt0.symm.trans ht0)
  obtain rfl := Option.some.inj (Tryd.gt1.symm.trans ht1)
  obtain rfl := Option.some.inj (Tryd.gt2.symm.trans ht2)
  obtain rfl := Option.some.inj (Tryd.gt3.symm.trans ht3)
  subst e3
  subst e2
  subst e1
  subst e0
  obtain ⟨l0⟩ := cs0
  obtain ⟨l1⟩ := cs1
  obtain ⟨l2⟩ := cs2
  obtain ⟨l3⟩ := cs3
  have ok0 : ∀ u v, l0 = [.iface u v] → Value.okWide Tryd.prog W .any 0 u v := fun u v e => by
    subst e
    exact (hrows 0 0 (by simp [MemPlace.row])).2 u v (by simpa using World.var?_cell hg0 hv0 0)
  have ok1 : ∀ u v, l1 = [.iface u v] → Value.okWide Tryd.prog W .any 0 u v := fun u v e => by
    subst e
    exact (hrows 1 0 (by simp [MemPlace.row])).2 u v (by simpa using World.var?_cell hg1 hv1 0)
  have ok2 : ∀ u v, l2 = [.iface u v] → Value.okWide Tryd.prog W .any 0 u v := fun u v e => by
    subst e
    exact (hrows 2 0 (by simp [MemPlace.row])).2 u v (by simpa using World.var?_cell hg2 hv2 0)
  have ok3 : ∀ u v, l3 = [.iface u v] → Value.okWide Tryd.prog W .any 0 u v := fun u v e => by
    subst e
    exact (hrows 3 0 (by simp [MemPlace.row])).2 u v (by simpa using World.var?_cell hg3 hv3 0)
  obtain ⟨a0, s0, rfl, _, _, _, rfl⟩ := errorString_of_trod Tryd.underlying59 Tryd.rowE Tryd.underlying100 Tryd.underlying125 rfl rfl Tryd.underlying9 Tryd.cellsE Tryd.cellsS hd0 ok0
  obtain ⟨a1, s1, rfl, _, _, _, rfl⟩ := errorString_of_trod Tryd.underlying59 Tryd.rowE Tryd.underlying100 Tryd.underlying125 rfl rfl Tryd.underlying9 Tryd.cellsE Tryd.cellsS hd1 ok1
  obtain ⟨a2, s2, rfl, _, _, _, rfl⟩ := errorString_of_trod Tryd.underlying59 Tryd.rowE Tryd.underlying100 Tryd.underlying125 rfl rfl Tryd.underlying9 Tryd.cellsE Tryd.cellsS hd2 ok2
  obtain ⟨a3, s3, rfl, _, _, _, rfl⟩ := errorString_of_trod Tryd.underlying59 Tryd.rowE Tryd.underlying100 Tryd.underlying125 rfl rfl Tryd.underlying9 Tryd.cellsE Tryd.cellsS hd3 ok3
  obtain ⟨c0, u0, b0⟩ := (hrows a0.block a0.off (by simp [MemPlace.row])).1
  obtain ⟨c1, u1, b1⟩ := (hrows a1.block a1.off (by simp [MemPlace.row])).1
  obtain ⟨c2, u2, b2⟩ := (hrows a2.block a2.off (by simp [MemPlace.row])).1
  obtain ⟨c3, u3, b3⟩ := (hrows a3.block a3.off (by simp [MemPlace.row])).1
  have n01 : a0 ≠ a1 := by rintro rfl; simp [MemPlace.row] at hnd
  have n02 : a0 ≠ a2 := by rintro rfl; simp [MemPlace.row] at hnd
  have n03 : a0 ≠ a3 := by rintro rfl; simp [MemPlace.row] at hnd
  have n12 : a1 ≠ a2 := by rintro rfl; simp [MemPlace.row] at hnd
  have n13 : a1 ≠ a3 := by rintro rfl; simp [MemPlace.row] at hnd
  have n23 : a2 ≠ a3 := by rintro rfl; simp [MemPlace.row] at hnd
  have k0 : W.cell? ⟨0, 0, none⟩ = some (.iface 100 (.pointer (some a0))) := by simpa using World.var?_cell hg0 hv0 0
  have k1 : W.cell? ⟨1, 0, none⟩ = some (.iface 100 (.pointer (some a1))) := by simpa using World.var?_cell hg1 hv1 0
  have k2 : W.cell? ⟨2, 0, none⟩ = some (.iface 100 (.pointer (some a2))) := by simpa using World.var?_cell hg2 hv2 0
  have k3 : W.cell? ⟨3, 0, none⟩ = some (.iface 100 (.pointer (some a3))) := by simpa using World.var?_cell hg3 hv3 0
  have m0 := World.block_lt_of_cell? W _ k0; have m1 := World.block_lt_of_cell? W _ k1; have m2 := World.block_lt_of_cell? W _ k2; have m3 := World.block_lt_of_cell? W _ k3
  have hlt : ∀ {a : Addr} {c : Array Value} {t : TypeId}, W.heap[a.block]? = some (.cells c t (0, 0)) → a.block < W.heap.size := fun h => (Array.getElem?_eq_some_iff.1 h).1
  refine ⟨fun | 0 => a0 | 1 => a1 | 2 => a2 | 3 => a3, ⟨k0, k1, k2, k3, ?_, ?_, ?_, ?_, Nat.le_refl _⟩⟩
  · rintro ⟨_ | _ | _ | _ | i, hi⟩ ⟨_ | _ | _ | _ | j, hj⟩ hne
    all_goals first
      | omega
      | exact absurd rfl hne
      | exact n01 | exact n02 | exact n03 | exact n12 | exact n13 | exact n23
      | exact n01.symm | exact n02.symm | exact n03.symm | exact n12.symm | exact n13.symm | exact n23.symm
  · rintro ⟨_ | _ | _ | _ | i, hi⟩
    · exact ⟨c0, u0, b0⟩
    · exact ⟨c1, u1, b1⟩
    · exact ⟨c2, u2, b2⟩
    · exact ⟨c3, u3, b3⟩
    · omega
  · rintro ⟨_ | _ | _ | _ | i, hi⟩
    · exact hlt b0
    · exact hlt b1
    · exact hlt b2
    · exact hlt b3
    · omega
  · simp at m0 m1 m2 m3
    omega
end Go.Proofs.YtpfldelmbigmbaaDoor
