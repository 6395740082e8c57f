/- Package space: what attaching makes of a memory (plain); begin, of any attachments, walked. -/
import Derived.Test.YtdkaaoboipphcaaSpFree
import Derived.Test.YtdkaaoboipphcaaSpShare
import Derived.Test.YtdkaaoboipphcaaSpExec
namespace Go.Proofs.Ytdkaaoboipphcaa
open Go.RowKit Go.Shelf

/-- so many pages are mapped to frames that are given. -/
def attK (n root : Nat) (S : PtS) (page fl : Nat) (f : Nat → Nat) : Nat → PtS
  | 0 => S
  | k + 1 => shpgS n root (attK n root S page fl f k) (page + k) (f k) fl

structure AttF (n root : Nat) (S : PtS) (page fl : Nat) (f : Nat → Nat) (c : Nat) : Prop where
  ok : (attK n root S page fl f c).ok n root
  used : usedN n (attK n root S page fl f c).R ≤ usedN n S.R + c
  kept : ∀ j, Kept n root S j → Kept n root (attK n root S page fl f c) j ∧ (attK n root S page fl f c).R j ≤ S.R j + c
  other : ∀ q, (q < page ∨ page + c ≤ q) → (attK n root S page fl f c).E q = S.E q
  there : ∀ q, page ≤ q → q < page + c → (attK n root S page fl f c).E q ≠ (0, 0)

set_option maxRecDepth 100000 in
theorem att_facts {n root : Nat} {S : PtS} (r : S.ok n root) {page fl : Nat} (hl : flagB (fl : Int) = true) (f : Nat → Nat) (C : Nat) (hf : ∀ i, i < C → Kept n root S (f i) ∧ S.R (f i) + C < 1000) (hu : usedN n S.R + C ≤ n) (hp : page + C ≤ 256) (hE : ∀ q, page ≤ q → q < page + C → S.E q = (0, 0)) :
    ∀ c, c ≤ C → AttF n root S page fl f c ∧ (c < C → ShareF n root (attK n root S page fl f c) (page + c) (f c) fl) := by
  intro c
  induction c with
  | zero =>
    intro _
    have h0 : AttF n root S page fl f 0 := ⟨r, Nat.le_refl _, fun j hj => ⟨hj, by show S.R j ≤ _; omega⟩, fun _ _ => rfl, fun q h1 h2 => absurd h2 (by omega)⟩
    refine ⟨h0, fun hc => ?_⟩
    exact share_facts r (by omega) (by omega) hl (hE _ (by omega) (by omega)) (hf 0 hc).1 (by have := (hf 0 hc).2; omega)
  | succ c ih =>
    intro hc
    obtain ⟨a, b⟩ := ih (by omega)
    have sf := b (by omega)
    have h1 : AttF n root S page fl f (c + 1) := by
      refine ⟨sf.ok, Nat.le_trans sf.used (by have := a.used; omega), fun j hj => ?_, fun q hq => ?_, fun q h1 h2 => ?_⟩
      · obtain ⟨x1, x2⟩ := a.kept j hj
        obtain ⟨y1, y2⟩ := sf.kept j x1
        exact ⟨y1, by show (shpgS n root (attK n root S page fl f c) (page + c) (f c) fl).R j ≤ _; omega⟩
      · show (shpgS n root (attK n root S page fl f c) (page + c) (f c) fl).E q = _
        rw [sf.E, updE_other _ _ (by omega)]
        exact a.other q (by omega)
      · show (shpgS n root (attK n root S page fl f c) (page + c) (f c) fl).E q ≠ _
        rw [sf.E]
        by_cases cq : q = page + c
        · rw [cq, updE_same]
          intro e
          have := congrArg Prod.fst e
          have hl' := flag_natlt hl
          simp at this
          omega
        · rw [updE_other _ _ cq]; exact a.there q h1 (by omega)
    refine ⟨h1, fun hcc => ?_⟩
    obtain ⟨k1, k2⟩ := hf (c + 1) hcc
    obtain ⟨x1, x2⟩ := h1.kept _ k1
    exact share_facts h1.ok (by have := h1.used; omega) (by omega) hl (by rw [h1.other _ (.inr (by omega))]; exact hE _ (by omega) (by omega)) x1 (Int.lt_of_le_of_lt x2 (by omega))

theorem Try.infoAtt : (Try.prog.info? 66).map (fun i => (i.zero, i.size, i.bytes)) = some (some (.agg #[.int .i64 0, .int .i64 0, .bool false]), 3, 24) := by kernel_rfl

/-- cells of attachments, one behind the other. -/
def cellsA (al : List AttV) : List Value := al.flatMap encA
theorem cellsA_length (al : List AttV) : (cellsA al).length = al.length * 3 := by
  induction al with
  | nil => rfl
  | cons x l ih => unfold cellsA at *; rw [List.flatMap_cons, List.length_append, ih, List.length_cons, show (encA x).length = 3 from rfl]; omega
theorem cellsA_get (al : List AttV) : ∀ j, (cellsA al)[j]? = if j < al.length * 3 then (encA al[j / 3]!)[j % 3]? else none := by
  induction al with
  | nil => intro j; rw [if_neg (by simp)]; rfl
  | cons x l ih =>
    intro j
    unfold cellsA at *
    rw [List.flatMap_cons]
    by_cases h : j < 3
    · rw [List.getElem?_append_left (by exact h), if_pos (by rw [List.length_cons]; omega), show j / 3 = 0 by omega, show j % 3 = j by omega]
      rfl
    · rw [List.getElem?_append_right (by show 3 ≤ j; omega), show (encA x).length = 3 from rfl, ih (j - 3), List.length_cons]
      by_cases h2 : j - 3 < l.length * 3
      · rw [if_pos h2, if_pos (by omega), show j / 3 = (j - 3) / 3 + 1 by omega, show (j - 3) % 3 = j % 3 by omega]
        rfl
      · rw [if_neg h2, if_neg (by omega)]
theorem cellsA_one (al : List AttV) : ∀ u ∈ cellsA al, u.oneCell' = true := by
  intro u hu
  unfold cellsA at hu
  obtain ⟨x, _, hx⟩ := List.mem_flatMap.1 hu
  simp [encA] at hx
  rcases hx with rfl | rfl | rfl <;> rfl

set_option maxRecDepth 100000 in
set_option maxHeartbeats 2000000 in
theorem begin_any (p : Nat) (r t d h : Int) (v : Value) (al : List AttV) (hlen : al.length ≤ 1000) (w : World) (ha : AttsAt w v al) : Calls Try.prog 18 #[.pointer (some ⟨p, 0, none⟩), .agg #[.int .i64 r, .int .i64 t, .int .i64 d, .int .i64 h, v]] w fun e w' =>
    ∃ pw v', e = .returned (.pointer (some ⟨pw, 0, none⟩)) ∧ WorkAt w' pw p r t d h v' (.slice none 0 0) 0 [] ∧ w'.ownsRow (w.heap.size + 1) 66 3 v' al.length (cellsA al) ∧ (∀ j, v'.ownBlock = some j → j < pw) ∧ w.heap.size < pw ∧ Below w.heap.size w w' := by
  rcases ha with ⟨rfl, rfl⟩ | ⟨h0, b, cap, rfl, hbl, hcl⟩
  · refine (begin_nil p r t d h w).mono ?_
    rintro e w' ⟨rfl, a1, a2, a3⟩
    exact ⟨_, _, rfl, a1, World.ownsRow_nil _ _ _ _, fun j e => by simp [Value.ownBlock] at e, Nat.lt_succ_self _, a2⟩
  · obtain ⟨i0, hi, hz0, hz1, hz2⟩ := info_parts Try.infoAtt
    have hb1 : Below w.heap.size w (w.alloc (.cells #[.int .i64 r, .int .i64 t, .int .i64 d, .int .i64 h, .slice (some ⟨b, 0, none⟩) al.length cap] 32)) := (Below.refl _ w).alloc (Nat.le_refl _) _
    have hcon := AnyE.slices_Clone Try.cloneAtt i0 _ 3 24 hi hz0 hz1 hz2 rfl (by omega) Try.sizeOf66 b 0 al.length cap (cellsA al) (w.alloc (.cells #[.int .i64 r, .int .i64 t, .int .i64 d, .int .i64 h, .slice (some ⟨b, 0, none⟩) al.length cap] 32)) (cellsA_length al) (by unfold maxLen; omega) (by omega) (fun j u hu => by
      rw [cellsA_get] at hu
      split at hu
      · rename_i hj
        have := (hb1.cell (p := ⟨b, 0 + j / 3 * 3 + j % 3, none⟩) hbl).trans (hcl (j / 3) (by omega) (j % 3) u hu)
        rwa [show 0 + j / 3 * 3 + j % 3 = 0 + j by omega] at this
      · cases hu) (cellsA_one al)
    change Calls Try.prog 31 _ _ _ at hcon
    have HCON := Lib.hid hcon
    have hn0 := heap_alloc_new w (.cells #[.int .i64 r, .int .i64 t, .int .i64 d, .int .i64 h, .slice (some ⟨b, 0, none⟩) al.length cap] 32)
    have HB1 := Lib.hid hb1
    clear hcon hcl hi hz0 hz1 hz2 hb1
    go_enter Try.func18, Try.ntmps18
    go_wp2_with fail
    generalize hW1 : w.alloc (.cells #[.int .i64 r, .int .i64 t, .int .i64 d, .int .i64 h, .slice (some ⟨b, 0, none⟩) al.length cap] 32) = W1 at *
    have hs1 : W1.heap.size = w.heap.size + 1 := by rw [← hW1]; simp
    refine HCON.out.mono ?_
    rintro e w2 ⟨v', rfl, hown, _, hB2⟩
    obtain ⟨gg, cap', rfl, hg1, hg2⟩ := hown.form h0
    have hn2 := (hB2.block w.heap.size (by omega)).trans hn0
    have c0 : w2.cell? ⟨w.heap.size, 0, none⟩ = some (.int .i64 r) := cell_of_heap hn2 rfl
    have c1 : w2.cell? ⟨w.heap.size, 1, none⟩ = some (.int .i64 t) := cell_of_heap hn2 rfl
    have c2 : w2.cell? ⟨w.heap.size, 2, none⟩ = some (.int .i64 d) := cell_of_heap hn2 rfl
    have c3 : w2.cell? ⟨w.heap.size, 3, none⟩ = some (.int .i64 h) := cell_of_heap hn2 rfl
    have c4 : w2.cell? ⟨w.heap.size, 4, none⟩ = some (.slice (some ⟨b, 0, none⟩) al.length cap) := cell_of_heap hn2 rfl
    have f4 : w2.frozen? ⟨w.heap.size, 4, none⟩ = false := by simp [World.frozen?, hn2]
    have H2 := Lib.hid (⟨hown, hB2, hg1, hg2⟩ : _ ∧ _ ∧ _ ∧ _)
    have HS1 := Lib.hid hs1
    clear hown hB2 hg1 hg2 hn0 hn2 hs1
    go_wp2
    go_ret
    obtain ⟨hown, hB2, hg1, hg2⟩ := H2.out
    have hs1 := HS1.out
    rw [hs1] at hown hB2
    have hsz : (w2.setCell ⟨w.heap.size, 4, none⟩ (.slice (some ⟨gg, 0, none⟩) al.length cap')).heap.size = w2.heap.size := by simp [World.setCell]
    have hnew := heap_alloc_new (w2.setCell ⟨w.heap.size, 4, none⟩ (.slice (some ⟨gg, 0, none⟩) al.length cap')) (.cells #[.pointer (some ⟨p, 0, none⟩), .int .i64 r, .int .i64 t, .int .i64 d, .int .i64 h, .slice (some ⟨gg, 0, none⟩) al.length cap', .slice none 0 0] 77)
    rw [hsz] at hnew
    have hB3 : Below w.heap.size w w2 := HB1.out.trans (hB2.mono (Nat.le_succ _))
    refine ⟨w2.heap.size, _, rfl, ⟨hnew, World.ownsRow_nil _ _ _ _⟩, (ownsRow_setCell_below hown (Nat.lt_succ_self _) _).alloc _, fun j e => ?_, ?_, (hB3.setCell (p := ⟨w.heap.size, 4, none⟩) (Nat.le_refl _) _).alloc (by rw [hsz]; exact hB3.size) _⟩
    · simp [Value.ownBlock] at e
      omega
    · have := hB2.size; omega

end Go.Proofs.Ytdkaaoboipphcaa
