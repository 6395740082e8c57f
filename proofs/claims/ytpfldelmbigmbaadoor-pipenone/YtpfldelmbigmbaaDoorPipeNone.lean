/- PipeNone, the tied card: for every act the law answers true: a nil pipe has nothing. Its condition, which the card ties to the program's text: package pipe's four error variables hold what their initialisers lay. -/
import Derived.Test.YtpfldelmbigmbaaDoorPiShown
import Derived.Test.YtpfldelmbigmbaaDoorPiAll
import Derived.Test.YtpfldelmbigmbaaDoorPiLaid
import Derived.Test.YtpfldelmbigmbaaDoorPiActs
import Derived.Test.YtpfldelmbigmbaaDoorLaw
import Derived.Test.YtpfldelmbigmbaaDoorArgs
import Derived.Test.YtpfldelmbigmbaaDoorCards
import Derived.Test.YtpfldelmbigmbaaDoorTie
import Derived.Lay
import Derived.MakeChecks
import Derived.SevenTiedAt
namespace Go.Proofs.YtpfldelmbigmbaaDoor
open Go.RowKit Go.ChangeShapes Go.WideShapes Go.ChangeAt

section
variable {g : Nat} {A : Fin 4 → Addr} {w : World}
set_option maxRecDepth 100000 in
theorem open_nil10 (hs : Sen g A w) (k : Int) : Calls Tryd.prog 17 #[.pointer none, .int .i64 k] w fun e w' => e = .returned (.int .i64 1) ∧ w' = w := by
  have C := Lib.hid (change_nil hs k 1)
  have N := Lib.hid (number_any hs (some 0))
  generalize errV A (some 0) = y at *
  have e1 : numE (some 0) = 1 := rfl
  rw [e1] at N
  clear hs
  go_enter Tryd.func17, Tryd.ntmps17
  go_wp2_with (first
    | (go_at_call 31; refine C.out.mono ?_; clear C; rintro e w1 ⟨rfl, rfl⟩)
    | (go_at_call 26; refine N.out.mono ?_; clear N; rintro e w2 ⟨rfl, rfl⟩))
  go_ret
  exact ⟨rfl, rfl⟩
set_option maxRecDepth 100000 in
theorem close_nil10 (hs : Sen g A w) (k : Int) : Calls Tryd.prog 19 #[.pointer none, .int .i64 k] w fun e w' => e = .returned (.tuple #[.bool false, .int .i64 1]) ∧ w' = w := by
  have C := Lib.hid (change_nil hs k (-1))
  have N := Lib.hid (number_any hs (some 0))
  generalize errV A (some 0) = y at *
  have e1 : numE (some 0) = 1 := rfl
  rw [e1] at N
  clear hs
  go_enter Tryd.func19, Tryd.ntmps19
  go_wp2_with (first
    | (go_at_call 31; refine C.out.mono ?_; clear C; rintro e w1 ⟨rfl, rfl⟩)
    | (go_at_call 26; refine N.out.mono ?_; clear N; rintro e w2 ⟨rfl, rfl⟩))
  refine bodyPost_ret (v := .tuple #[.bool false, .int .i64 1]) (by simp [results, Tryd.results19, go_sem]) rfl ?_
  exact ⟨rfl, rfl⟩
set_option maxRecDepth 100000 in
theorem read_nil10 (hs : Sen g A w) (n : Int) : Calls Tryd.prog 12 #[.pointer none, .int .i64 n] w fun e w' => e = .returned (.tuple #[.string ⟨#[]⟩, .int .i64 1]) ∧ w' = w := by
  have C := Lib.hid (reading_nil hs n)
  have N := Lib.hid (number_any hs (some 0))
  generalize errV A (some 0) = y at *
  have e1 : numE (some 0) = 1 := rfl
  rw [e1] at N
  clear hs
  go_enter Tryd.func12, Tryd.ntmps12
  go_wp2_with (first
    | (go_at_call 27; refine C.out.mono ?_; clear C; rintro e w1 ⟨rfl, rfl⟩)
    | (go_at_call 26; refine N.out.mono ?_; clear N; rintro e w2 ⟨rfl, rfl⟩))
  refine bodyPost_ret (v := .tuple #[.string ⟨#[]⟩, .int .i64 1]) (by simp [results, Tryd.results12, go_sem]) rfl ?_
  exact ⟨rfl, rfl⟩
set_option maxRecDepth 100000 in
theorem write_nil10 (hs : Sen g A w) (s : ByteArray) : Calls Tryd.prog 14 #[.pointer none, .string s] w fun e w' => e = .returned (.tuple #[.int .i64 0, .int .i64 1]) ∧ w' = w := by
  have C := Lib.hid (writing_nil hs (s.size : Int))
  have N := Lib.hid (number_any hs (some 0))
  generalize errV A (some 0) = y at *
  have e1 : numE (some 0) = 1 := rfl
  rw [e1] at N
  clear hs
  go_enter Tryd.func14, Tryd.ntmps14
  go_wp2_with (first
    | (go_at_call 29; refine C.out.mono ?_; clear C; rintro e w1 ⟨rfl, rfl⟩)
    | (go_at_call 26; refine N.out.mono ?_; clear N; rintro e w2 ⟨rfl, rfl⟩))
  refine bodyPost_ret (v := .tuple #[.int .i64 0, .int .i64 1]) (by simp [results, Tryd.results14, go_sem]) rfl ?_
  exact ⟨rfl, rfl⟩
set_option maxRecDepth 100000 in
theorem canR_nil10 (hs : Sen g A w) : Calls Tryd.prog 23 #[.pointer none] w fun e w' => e = .returned (.bool false) ∧ w' = w := by
  have C := Lib.hid (reading_nil hs 1)
  have N : Hid (Calls Tryd.prog 35 #[errV A (some 0)] w fun e w' => e = .returned (.bool false) ∧ w' = w) := able_any hs (some 0)
  generalize errV A (some 0) = y at *
  clear hs
  go_enter Tryd.func23, Tryd.ntmps23
  go_wp2_with (first
    | (go_at_call 27; refine C.out.mono ?_; clear C; rintro e w1 ⟨rfl, rfl⟩)
    | (go_at_call 35; refine N.out.mono ?_; clear N; rintro e w2 ⟨rfl, rfl⟩))
  go_ret
  exact ⟨rfl, rfl⟩
set_option maxRecDepth 100000 in
theorem canW_nil10 (hs : Sen g A w) : Calls Tryd.prog 24 #[.pointer none] w fun e w' => e = .returned (.bool false) ∧ w' = w := by
  have C := Lib.hid (writing_nil hs 1)
  have N : Hid (Calls Tryd.prog 35 #[errV A (some 0)] w fun e w' => e = .returned (.bool false) ∧ w' = w) := able_any hs (some 0)
  generalize errV A (some 0) = y at *
  clear hs
  go_enter Tryd.func24, Tryd.ntmps24
  go_wp2_with (first
    | (go_at_call 29; refine C.out.mono ?_; clear C; rintro e w1 ⟨rfl, rfl⟩)
    | (go_at_call 35; refine N.out.mono ?_; clear N; rintro e w2 ⟨rfl, rfl⟩))
  go_ret
  exact ⟨rfl, rfl⟩
set_option maxRecDepth 100000 in
theorem ends_nil10 (w : World) : Calls Tryd.prog 21 #[.pointer none] w fun e w' => e = .returned (.tuple #[.int .i64 0, .int .i64 0]) ∧ w' = w := by
  go_enter Tryd.func21, Tryd.ntmps21
  go_wp2
  refine bodyPost_ret (v := .tuple #[.int .i64 0, .int .i64 0]) (by simp [results, Tryd.results21, go_sem]) rfl ?_
  exact ⟨rfl, rfl⟩
set_option maxRecDepth 100000 in
theorem len_nil10 (w : World) : Calls Tryd.prog 22 #[.pointer none] w fun e w' => e = .returned (.int .i64 0) ∧ w' = w := by
  go_enter Tryd.func22, Tryd.ntmps22
  go_wp2
  go_ret
  exact ⟨rfl, rfl⟩
end

set_option maxRecDepth 100000 in
set_option maxHeartbeats 4000000 in
theorem none_walk (d k n : Int) (s : ByteArray) (w : World) {A : Fin 4 → Addr} (hs : Sen w.heap.size A w) (_hn : n ≤ 9223372036854775807) (_hs2 : s.size ≤ maxLen) :
    Calls Tryd.prog 7 #[.agg #[.int .i64 d, .int .i64 k, .int .i64 n, .string s]] w fun e w' => e = .returned (.bool true) ∧ Below w.heap.size w w' := by
  have hB0 := (Below.refl w.heap.size w).alloc (Nat.le_refl _) (.cells #[.int .i64 d, .int .i64 k, .int .i64 n, .string s] 30)
  have S := Lib.hid (shown10 works10 _ (newP (hs.below hB0 (Nat.le_refl _))))
  have HX := Lib.hid (BoxA.new w 30 #[.int .i64 d, .int .i64 k, .int .i64 n, .string s])
  have HB := Lib.hid hB0
  have HS := Lib.hid hs
  clear hs hB0
  go_enter Tryd.func7, Tryd.ntmps7
  go_wp2_with (first
    | (go_at_call 10; refine S.out.mono ?_; clear S; rintro e w0 ⟨rfl, hB⟩; have X1 := Lib.hid (HX.out.below' hB); have c1 := X1.out.at 1 (v := .int .i64 k) rfl; have c2 := X1.out.at 2 (v := .int .i64 n) rfl; have c3 := X1.out.at 3 (v := .string s) rfl; have B1 := Lib.hid (HB.out.trans (hB.mono HB.out.size)); have S1 := Lib.hid (HS.out.below B1.out (Nat.le_refl _)); clear hB HB HX)
    | (go_at_call 19; refine (close_nil10 S1.out k).mono ?_; rintro e w1 ⟨rfl, rfl⟩)
    | (go_at_call 12; refine (read_nil10 S1.out n).mono ?_; rintro e w1 ⟨rfl, rfl⟩)
    | (go_at_call 14; refine (write_nil10 S1.out s).mono ?_; rintro e w1 ⟨rfl, rfl⟩)
    | (go_at_call 21; refine (ends_nil10 _).mono ?_; rintro e w1 ⟨rfl, rfl⟩)
    | (go_at_call 17; refine (open_nil10 S1.out k).mono ?_; rintro e w1 ⟨rfl, rfl⟩)
    | (go_at_call 23; refine (canR_nil10 S1.out).mono ?_; rintro e w1 ⟨rfl, rfl⟩)
    | (go_at_call 24; refine (canW_nil10 S1.out).mono ?_; rintro e w1 ⟨rfl, rfl⟩)
    | (go_at_call 22; refine (len_nil10 _).mono ?_; rintro e w1 ⟨rfl, rfl⟩))
  go_ret
  exact ⟨rfl, B1.out⟩

set_option maxRecDepth 100000 in
theorem none_lifted (os : Os) (started : os.Started) (H : Type) (enc : TypeId × Value → H) :
    ReturnsInHanded {} Tryd.checked os 7 .any (fun w args => (Rows.pipeNoneSpec.pre enc Tryd.prog Tryd.f7 [] false w args ∧ laidMetH Tryd.prog Rows.pipeNoneRow.laid w) ∧ sizedMet enc Tryd.prog Tryd.f7 (OpenSpec.ofChange Rows.pipeNoneSpec) false w args)
      (Rows.pipeNoneSpec.post enc Tryd.prog Tryd.f7 false true false false) := by
  refine returnsInHanded_of_change_and (C := Tryd.checked) (X := fun w _ => laidMetH Tryd.prog Rows.pipeNoneRow.laid w) (fun _ _ _ hh h => h.of_heap hh) own started (by kernel_rfl) Tryd.func7
    (ChangeSpec.witness_shaped (enc := enc) (C := Tryd.checked) (os := os) (X := fun w _ => laidMetH Tryd.prog Rows.pipeNoneRow.laid w) false (World.laidAll Tryd.prog os Rows.pipeNoneRow.laid) #[.agg #[.int .i64 0, .int .i64 0, .int .i64 0, .string ⟨#[]⟩]] 8 (World.laidAll_os _ _ _)
      (World.shaped_of_ZipB (by kernel_rfl) (by kernel_rfl)) (by kernel_rfl) (by kernel_rfl) (by kernel_rfl)
      (by rw [MakeChecks.laidMetH_plain _ _ _ (by kernel_rfl)]; exact laidMet_laidAll _ (by kernel_rfl) (by kernel_rfl))) ?_
  intro W base args ds gs before hval0 hW _ _ hL _
  have hL' : laidMet Tryd.prog Rows.pipeNoneRow.laid W := by rw [MakeChecks.laidMetH_plain _ _ _ (by kernel_rfl)] at hL; exact hL
  obtain ⟨A, hs⟩ := sen_of_laid hL'
  have hval : ∀ (j : Nat) t v, Tryd.f7.params[j]? = some t → args[j]? = some v → Value.okWide Tryd.prog W .any base t v := hval0
  have hW' := hW
  obtain ⟨p, q, hA0, hV, rfl, hfz, hnd⟩ := hW
  have hA : DataW.TrodAll enc Tryd.prog W 0 (fun _ => true) true Tryd.f7.params.toList args.toList ds p := hA0
  rw [Tryd.params7] at hA hval
  obtain ⟨v0, vs0, d0, ds0, p0, q0, hargs, rfl, rfl, h0, r0⟩ := trodAll_cons hA
  obtain ⟨rfl, rfl, rfl⟩ := trodAll_nil r0
  obtain rfl : args = #[v0] := by cases args; simp_all
  obtain ⟨d0, k0, n0, s0, rfl, hn0, hs0⟩ := open_act (hval 0 30 v0 rfl rfl) h0
  have hwalk : Calls Tryd.prog 7 #[.agg #[.int .i64 d0, .int .i64 k0, .int .i64 n0, .string s0]] W fun e w' => e = .returned (.bool true) ∧ Below W.heap.size W w' := none_walk d0 k0 n0 s0 W hs hn0 hs0
  refine hwalk.mono fun e W' ⟨he, bel⟩ => ⟨_, he, ?_⟩
  exact law_post laidOut (of_decide_eq_true (by kernel_rfl)) rfl Tryd.underlying4 rfl hW' (fun ds' e => by subst e; rfl) bel

theorem pipeNone_said : Rows.PipeNoneSaid :=
  OpenClaim.holds_of_wide 7 Tryd.f7 rfl rfl rfl rfl rfl rfl rfl ⟨rfl, rfl, rfl, rfl, rfl⟩ rfl rfl rfl rfl rfl (by kernel_rfl) Tryd.func7 (by kernel_rfl)
    (of_decide_eq_true (by kernel_rfl)) (by unfold Func.isWrapper; rw [if_neg (by decide +kernel)]; exact ⟨rfl, rfl⟩)
    (fun os started H enc _ => none_lifted os started H enc)

theorem pipeNone_holds : Rows.PipeNoneCardSaid :=
  Claim7.holds_tied_plain_at .later [] _ _ _ _ pipeNone_said (fun _ h => by cases h) (by kernel_rfl) (fun _ h => by cases h) pipeNone_row_tie rfl ⟨rfl, rfl⟩ (by kernel_rfl) rfl
    (fun f fn hf hfn => by
      obtain rfl : f = 7 := Option.some.inj ((show Tryd.prog.funcNamed "taffrail/taffraillaw10.PipeNone" = some 7 by kernel_rfl).symm.trans hf) |>.symm
      obtain rfl : fn = Tryd.f7 := (Option.some.inj (Tryd.func7.symm.trans hfn)).symm
      exact ⟨by kernel_rfl, fun j t ht => by
        have hm : t ∈ Tryd.f7.params.toList := by simpa using Array.mem_of_getElem? ht
        have hall : (Tryd.f7.params.toList.all fun u => !Tryd.prog.wantsStandIn u) = true := by kernel_rfl
        exact (show Tryd.prog.wantsStandIn t = false by simpa using List.all_eq_true.1 hall t hm)⟩)
    (by kernel_rfl)

#print axioms pipeNone_holds
end Go.Proofs.YtpfldelmbigmbaaDoor
