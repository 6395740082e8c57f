/- Package proc: change, walked, for whatever function makes of a process another one. -/
import Derived.Test.YtonllnbincgdpaaProcZombie
namespace Go.Proofs.Ytonllnbincgdpaa
open Go.RowKit

/-- some processes changed, one by one. -/
def chgL (f : PV → PV) (L : List PV) (xs : List Int) : List PV := xs.foldl (fun L k => setL L k (f (atL L k))) L

/-- a slice of numbers that lies apart from the table. -/
def SlAt (w : World) (p m : Nat) (v : Value) (xs : List Int) : Prop := ∃ a cap, v = .slice a xs.length cap ∧ (0 < xs.length → ∃ r cur, a = some ⟨r, 0, none⟩ ∧ r ≠ p ∧ r ≠ m ∧ w.heap[r]? = some (.cells cur 3 (0, 0)) ∧ ∀ (j : Nat) (u : Value), (xs.map Go.encZ)[j]? = some u → cur[j]? = some u)

theorem getL_set {L : List PV} {j k : Int} {q' : PV} (h : (getL L j).isSome) (hq : q'.pid = k) : (getL (setL L k q') j).isSome := by
  obtain ⟨q, hj⟩ := Option.isSome_iff_exists.1 h
  obtain ⟨h1, h2⟩ := getL_mem hj
  cases e : getL (setL L k q') j with
  | some _ => rfl
  | none =>
    have := getL_none e (if q.pid = k then q' else q) (List.mem_map.2 ⟨q, h1, rfl⟩)
    split at this <;> omega

theorem chg_some {f : PV → PV} (hf : ∀ q, (f q).pid = q.pid) : ∀ {L : List PV} {k : Int}, (getL L k).isSome → ∀ xs, (getL (chgL f L xs) k).isSome
  | _, _, h, [] => h
  | L, k, h, x :: xs => by
    show (getL (chgL f (setL L x (f (atL L x))) xs) k).isSome
    refine chg_some hf ?_ xs
    by_cases e : (getL L x).isSome
    · obtain ⟨q, hq⟩ := Option.isSome_iff_exists.1 e
      exact getL_set h (by rw [hf]; exact at_pid hq)
    · have hn : getL L x = none := by simpa using e
      have : setL L x (f (atL L x)) = L := by
        unfold setL
        conv => rhs; rw [← List.map_id L]
        refine List.map_congr_left (fun q hq => ?_)
        rw [if_neg (getL_none hn q hq)]; rfl
      rw [this]; exact h

theorem chg_take {f : PV → PV} {L : List PV} {xs : List Int} {j : Nat} {k : Int} (h : xs[j]? = some k) : chgL f L (xs.take (j + 1)) = setL (chgL f L (xs.take j)) k (f (atL (chgL f L (xs.take j)) k)) := by
  have hlt : j < xs.length := (List.getElem?_eq_some_iff.1 h).1
  have : xs.take (j + 1) = xs.take j ++ [k] := by rw [List.take_succ_eq_append_getElem hlt]; congr 2; rw [List.getElem?_eq_getElem hlt] at h; exact Option.some.inj h
  rw [this]
  unfold chgL
  rw [List.foldl_append]
  rfl
theorem chg_one (f : PV → PV) (L : List PV) (k : Int) : chgL f L [k] = setL L k (f (atL L k)) := rfl

theorem chg_those {f : PV → PV} (hf : ∀ q, (f q).pid = q.pid) (h : PV → Bool) {g : Int} : ∀ (B A : List PV), TOk (A ++ B) g → chgL f (A ++ B) (thoseL h B) = A ++ B.map (fun q => if h q then f q else q)
  | [], A, _ => by simp [thoseL, chgL]
  | b :: B, A, ho => by
    have e1 : A ++ b :: B = (A ++ [b]) ++ B := by simp
    by_cases hb : h b = true
    · have hg : getL (A ++ b :: B) b.pid = some b := getL_of_mem ho (by simp)
      have ho2 : TOk ((A ++ [f b]) ++ B) g := by
        have := ho.setP (k := b.pid) (q' := f b) (hf b)
        rw [setL_split ho rfl rfl] at this
        simpa using this
      have e2 : thoseL h (b :: B) = b.pid :: thoseL h B := by simp [thoseL, hb]
      rw [e2]
      show chgL f (setL (A ++ b :: B) b.pid (f (atL (A ++ b :: B) b.pid))) (thoseL h B) = _
      rw [atL_some hg, setL_split ho rfl rfl]
      have := chg_those hf h B (A ++ [f b]) ho2
      simpa [hb] using this
    · have hb' : h b = false := by simpa using hb
      have e2 : thoseL h (b :: B) = thoseL h B := by simp [thoseL, hb']
      rw [e2, e1]
      have := chg_those hf h B (A ++ [b]) (by rw [← e1]; exact ho)
      rw [this]
      simp [hb']
theorem those_in_list {L : List PV} {g : Int} (ho : TOk L g) {h : PV → Bool} : ∀ k ∈ thoseL h L, (getL L k).isSome := by
  intro k hk
  obtain ⟨q, hq, rfl⟩ := List.mem_map.1 hk
  rw [getL_of_mem ho (List.mem_filter.1 hq).1]
  rfl
theorem SlAt.of_row {W : World} {p m n : Nat} {v : Value} {xs : List Int} (hr : W.ownsRow n 3 1 v xs.length (xs.map Go.encZ)) (hp : p < n) (hm : m < n) : SlAt W p m v xs := by
  obtain ⟨a, cap, rfl, h⟩ := row_cells hr (by simp)
  refine ⟨a, cap, rfl, fun c => ?_⟩
  obtain ⟨r, cur, h1, h2, h3, h4⟩ := h c
  exact ⟨r, cur, h1, by omega, by omega, h3, h4⟩
theorem SlAt.one {W : World} {p m r : Nat} {k : Int} {c : Nat} (h : BoxA W r 3 #[.int .i64 k]) (hp : r ≠ p) (hm : r ≠ m) : SlAt W p m (.slice (some ⟨r, 0, none⟩) 1 c) [k] :=
  ⟨_, c, rfl, fun _ => ⟨r, _, rfl, hp, hm, h.blk, fun j u hu => by simpa [Go.encZ] using hu⟩⟩

section
variable {w : World} {p m : Nat} {L : List PV} {g : Int}

set_option maxRecDepth 100000 in
set_option maxHeartbeats 2000000 in
theorem change_any (hW : TabAt w p m L g) (F : Nat) (caps : Array Value) (f : PV → PV) (hfp : ∀ q, (f q).pid = q.pid) (hent : ∀ args w, (callFunc F args).run Try.prog w = .ok (.enter F args) w)
    (hcall : ∀ (q : PV) (W : World), Turn p m w W → Calls Try.prog F (#[q.val] ++ caps) W fun e W' => e = .returned (f q).val ∧ Below W.heap.size W W')
    {v : Value} {xs : List Int} (hv : SlAt w p m v xs) (hxs : ∀ k ∈ xs, (getL L k).isSome) (hlen : xs.length ≤ 100) :
    Calls Try.prog 38 #[.pointer (some ⟨p, 0, none⟩), .func (.func F) #[] caps, v] w fun e w' => e = .returned (.tuple #[]) ∧ TabAt w' p m (chgL f L xs) g ∧ Turn p m w w' := by
  obtain ⟨ra, cap, rfl, hcells⟩ := hv
  have HC := Lib.hid hcall; have HCE := Lib.hid hcells; have HX := Lib.hid hxs; have HFP := Lib.hid hfp; have HW := Lib.hid hW
  clear hcall hcells hxs hfp
  go_enter Try.func38, Try.ntmps38
  go_wp2_with fail
  go_loopw [10] (fun i wr => ∃ j : Nat, j ≤ xs.length ∧ i = .int .i64 j ∧ TabAt wr p m (chgL f L (xs.take j)) g ∧ Turn p m w wr) (fun i _ => xs.length - (intOf i).toNat)
  case atStart => exact ⟨0, by omega, rfl, HW.out, Turn.refl _⟩
  case round =>
    obtain ⟨j, hj, rfl, hT, hU⟩ := hrel
    by_cases hlt : j < xs.length
    · obtain ⟨r, cur, rfl, hrp, hrm, hrb, hrc⟩ := HCE.out (by omega)
      have hrr := (hU.block r (Array.getElem?_eq_some_iff.1 hrb).1 hrp hrm).trans hrb
      obtain ⟨k, hk⟩ : ∃ k, xs[j]? = some k := ⟨_, List.getElem?_eq_getElem hlt⟩
      have hcell : wr.cell? ⟨r, j, none⟩ = some (.int .i64 k) := by
        simp [World.cell?, hrr]
        exact hrc j _ (by simp [hk, Go.encZ])
      have hin : (getL (chgL f L (xs.take j)) k).isSome := chg_some HFP.out (HX.out k (List.mem_of_getElem? hk)) _
      obtain ⟨q, hq⟩ := Option.isSome_iff_exists.1 hin
      have hlk0 := (hT.mp.keep (w' := wr.drew) rfl).lookup k false
      rw [atL_some hq, if_neg (by decide)] at hlk0
      have c0 := hT.c0
      have HT := Lib.hid hT; have HU := Lib.hid hU; have HQ := Lib.hid hq; have HK := Lib.hid hk
      clear hT hU hq hk hin hrr hrb hrc
      go_wp2_with fail
      go_region_held3 (fun w' => w'.cell? ⟨p, 0, none⟩ = some (.map (some m))) (first | exact c0 | exact d0 | exact d1) ((refine (HC.out q wr.drew ⟨HU.out.os, HU.out.tape, HU.out.output, HU.out.size, HU.out.block⟩).mono ?_; rintro e w2 ⟨rfl, hB2⟩; have hT2 := (HT.out.keep (w' := wr.drew) rfl rfl).below' hB2; have d0 := hT2.c0; obtain ⟨o, hup, hM3⟩ := hT2.mp.set hT2.ok HQ.out ((HFP.out q).trans (getL_mem HQ.out).2); have d1 : (putM w2 m o).cell? ⟨p, 0, none⟩ = some (.map (some m)) := (World.cell?_of_block (a := ⟨p, 0, none⟩) (putM_other o hT2.ne)).trans d0))
      have HT2 := Lib.hid hT2; have HM3 := Lib.hid hM3; have HB2 := Lib.hid hB2
      clear hT2 hM3 hB2 hup d0 d1 c0 hcell hlk0
      go_wp2
      go_roundw
      case rel =>
        refine ⟨j + 1, by omega, by go_num, ⟨HT2.out.box.keep (putM_other o HT2.out.ne), ?_, ?_⟩, ?_⟩
        · rw [chg_take HK.out, atL_some HQ.out]; exact HM3.out
        · rw [chg_take HK.out, atL_some HQ.out]; exact HT2.out.ok.setP ((HFP.out q).trans (getL_mem HQ.out).2)
        · exact HU.out.trans ((Turn.of_below HB2.out).drew.trans (putM_turn o))
      case measure => simp [intOf]; omega
    · obtain rfl : j = xs.length := by omega
      go_wp2
      go_end0
      rw [List.take_length] at hT
      exact ⟨rfl, hT, hU⟩
end
end Go.Proofs.Ytonllnbincgdpaa
