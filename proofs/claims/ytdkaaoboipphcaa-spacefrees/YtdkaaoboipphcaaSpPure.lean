/- Layer 4: what its calls make of a memory, as plain functions (no walk). -/
import Derived.Test.YtdkaaoboipphcaaPtMach
namespace Go.Proofs.Ytdkaaoboipphcaa
open Go.RowKit

/-- how many frames are in use. -/
def usedN : Nat → (Nat → Int) → Nat
  | 0, _ => 0
  | n + 1, R => usedN n R + if R n = 0 then 0 else 1
theorem used_upd (R : Nat → Int) (t : Nat) (v : Int) : ∀ n, usedN n (updR R t v) ≤ usedN n R + if t < n then 1 else 0
  | 0 => by simp [usedN]
  | n + 1 => by
    have ih := used_upd R t v n
    unfold usedN
    by_cases c : n = t
    · subst c
      rw [if_neg (by omega)] at ih
      rw [if_pos (Nat.lt_succ_self n)]
      split <;> split <;> omega
    · rw [updR_other _ _ c]
      have e : (if t < n + 1 then 1 else 0) = (if t < n then 1 else 0) := by
        by_cases c2 : t < n
        · rw [if_pos c2, if_pos (by omega)]
        · rw [if_neg c2, if_neg (by omega)]
      rw [e]
      omega
theorem used_upd1 (R : Nat → Int) (t : Nat) (v : Int) (n : Nat) : usedN n (updR R t v) ≤ usedN n R + 1 := by
  have := used_upd R t v n
  split at this <;> omega
theorem used_live (R : Nat → Int) {t : Nat} (v : Int) (h : R t ≠ 0) : ∀ n, usedN n (updR R t v) ≤ usedN n R
  | 0 => by simp [usedN]
  | n + 1 => by
    have ih := used_live R v h n
    unfold usedN
    by_cases c : n = t
    · subst c
      rw [if_neg h]
      split <;> omega
    · rw [updR_other _ _ c]; omega
theorem used_all (R : Nat → Int) : ∀ n, (∀ j, j < n → R j ≠ 0) → usedN n R = n
  | 0, _ => rfl
  | n + 1, h => by
    unfold usedN
    rw [used_all R n (fun j hj => h j (by omega)), if_neg (h n (by omega))]
theorem used_free {R : Nat → Int} {n : Nat} (h : usedN n R < n) : ∃ t, allocF n R = some t := by
  cases e : allocF n R with
  | some t => exact ⟨t, rfl⟩
  | none =>
    have := used_all R n (allocF_none_inv e)
    omega

/-- a frame is allocated, written to, shared. -/
def alloS (n : Nat) (S : PtS) : PtS := ⟨allocR n S.R, allocB n S.R S.B, S.T, S.E⟩
def writS (S : PtS) (k : Nat) (s : List UInt8) : PtS := ⟨S.R, updB S.B k (putBytes (S.B k) 0 s), S.T, S.E⟩
def sharS (S : PtS) (k : Nat) : PtS := ⟨updR S.R k (S.R k + 1), S.B, S.T, S.E⟩
/-- a page gets a frame of its own, or one that is given. -/
def pageS (n root : Nat) (S : PtS) (page flags : Nat) (s : List UInt8) : PtS := (mapS n root (writS (alloS n S) (allocN n S.R) s) page (allocN n S.R : Nat) flags).2
def shpgS (n root : Nat) (S : PtS) (page k flags : Nat) : PtS := (mapS n root (sharS S k) page k flags).2
/-- pages of a part. -/
def addS (n root : Nat) (S : PtS) (page flags : Nat) (s : List UInt8) : Nat → PtS
  | 0 => S
  | k + 1 => pageS n root (addS n root S page flags s k) (page + k) flags ((s.drop (64 * k)).take 64)
/-- a new root. -/
def rootS (n : Nat) (R : Nat → Int) (B : Nat → List UInt8) : PtS := ⟨allocR n R, allocB n R B, fun _ => (0, 0), fun _ => (0, 0)⟩
/-- a space of an image. -/
def loadS (n root : Nat) (S : PtS) (t d : Nat) (text data : List UInt8) : PtS :=
  addS n root (addS n root (addS n root S 0 1 text t) t 3 data d) 254 3 [] 2

/-- a frame that is in use, and neither the root nor a table. -/
structure Kept (n root : Nat) (S : PtS) (k : Nat) : Prop where
  lt : k < n
  pos : 0 < S.R k
  nr : k ≠ root
  nt : ∀ i, i < 16 → S.T i ≠ (0, 0) → (S.T i).2 ≠ k

theorem alloS_some {n : Nat} {S : PtS} {t : Nat} (h : allocF n S.R = some t) : alloS n S = ⟨updR S.R t 1, updB S.B t zeroPage, S.T, S.E⟩ ∧ allocN n S.R = t ∧ allocE n S.R = 0 := by
  unfold alloS allocR allocB allocN allocE
  rw [h]
  exact ⟨rfl, rfl, rfl⟩

theorem fresh_ok {n : Nat} {R : Nat → Int} {B : Nat → List UInt8} {t : Nat} (ht : t < n) (hR : ∀ k, k < n → 0 ≤ R k) (hB : ∀ k, k < n → (B k).length = 64) (hn : n ≤ 256) :
    PtS.ok n t ⟨updR R t 1, updB B t zeroPage, fun _ => (0, 0), fun _ => (0, 0)⟩ := by
  refine ⟨ht, by simp, ?_, hn, fun i _ => by show ent (updB B t zeroPage t) i = _; rw [updB_same]; exact ent_zero i, fun i _ h => absurd rfl h, fun i j _ _ h => absurd rfl h, fun _ _ _ _ _ => rfl, fun i j _ _ h => absurd rfl h, fun p _ h => absurd rfl h, ?_⟩
  · intro k hk
    show (updB B t zeroPage k).length = 64
    by_cases c : k = t
    · rw [c, updB_same]; simp [zeroPage]
    · rw [updB_other _ _ c]; exact hB k hk
  · intro k hk hkr _
    show 0 ≤ updR R t 1 k
    rw [updR_other _ _ hkr]; exact hR k hk

section
variable {n root : Nat} {S : PtS}

theorem allo_ok (r : S.ok n root) {t : Nat} (h0 : S.R t = 0) (ht : t < n) : PtS.ok n root ⟨updR S.R t 1, updB S.B t zeroPage, S.T, S.E⟩ ∧ Kept n root ⟨updR S.R t 1, updB S.B t zeroPage, S.T, S.E⟩ t := by
  have r' : Rep n S.R S.B root S.T S.E := r
  have hr0 : root ≠ t := fun e => by have := r'.rR; rw [e, h0] at this; cases this
  have hT : ∀ i, i < 16 → S.T i ≠ (0, 0) → (S.T i).2 ≠ t := fun i hi hT e => by have := (r'.tb i hi hT).2.2.2.1; rw [e, h0] at this; cases this
  refine ⟨⟨r'.rt, ?_, ?_, r'.hn, ?_, ?_, r'.inj, r'.e0, ?_, r'.eok, ?_⟩, ht, by show 0 < updR S.R t 1 t; simp, Ne.symm hr0, hT⟩
  · show updR S.R t 1 root = 1
    rw [updR_other _ _ hr0]; exact r'.rR
  · intro k hk
    show (updB S.B t zeroPage k).length = 64
    by_cases c : k = t
    · rw [c, updB_same]; simp [zeroPage]
    · rw [updB_other _ _ c]; exact r'.hB k hk
  · intro i hi
    show ent (updB S.B t zeroPage root) i = S.T i
    rw [updB_other _ _ hr0]; exact r'.hT i hi
  · intro i hi hTi
    obtain ⟨a1, a2, a3, a4, a5⟩ := r'.tb i hi hTi
    refine ⟨a1, a2, a3, ?_, a5⟩
    show updR S.R t 1 (S.T i).2 = 1
    rw [updR_other _ _ (hT i hi hTi)]; exact a4
  · intro i j hi hj hTi
    show ent (updB S.B t zeroPage (S.T i).2) j = S.E (16 * i + j)
    rw [updB_other _ _ (hT i hi hTi)]; exact r'.eT i j hi hj hTi
  · intro k hk h1 h2
    show 0 ≤ updR S.R t 1 k
    by_cases c : k = t
    · rw [c]; simp
    · rw [updR_other _ _ c]; exact r'.fr k hk h1 h2

theorem writ_ok (r : S.ok n root) {k : Nat} (hk : Kept n root S k) {s : List UInt8} (hs : s.length ≤ 64) : (writS S k s).ok n root := by
  have r' : Rep n S.R S.B root S.T S.E := r
  refine ⟨r'.rt, r'.rR, ?_, r'.hn, ?_, r'.tb, r'.inj, r'.e0, ?_, r'.eok, r'.fr⟩
  · intro j hj
    show (updB S.B k (putBytes (S.B k) 0 s) j).length = 64
    by_cases c : j = k
    · rw [c, updB_same, putBytes_length _ _ _ (by rw [r'.hB k hk.lt]; omega)]; exact r'.hB k hk.lt
    · rw [updB_other _ _ c]; exact r'.hB j hj
  · intro i hi
    show ent (updB S.B k (putBytes (S.B k) 0 s) root) i = S.T i
    rw [updB_other _ _ (Ne.symm hk.nr)]; exact r'.hT i hi
  · intro i j hi hj hTi
    show ent (updB S.B k (putBytes (S.B k) 0 s) (S.T i).2) j = S.E (16 * i + j)
    rw [updB_other _ _ (hk.nt i hi hTi)]; exact r'.eT i j hi hj hTi

theorem shar_ok (r : S.ok n root) {k : Nat} (hk : Kept n root S k) : (sharS S k).ok n root := by
  have r' : Rep n S.R S.B root S.T S.E := r
  refine ⟨r'.rt, ?_, r'.hB, r'.hn, r'.hT, ?_, r'.inj, r'.e0, r'.eT, r'.eok, ?_⟩
  · show updR S.R k _ root = 1
    rw [updR_other _ _ (Ne.symm hk.nr)]; exact r'.rR
  · intro i hi hTi
    obtain ⟨a1, a2, a3, a4, a5⟩ := r'.tb i hi hTi
    refine ⟨a1, a2, a3, ?_, a5⟩
    show updR S.R k _ (S.T i).2 = 1
    rw [updR_other _ _ (hk.nt i hi hTi)]; exact a4
  · intro j hj h1 h2
    show 0 ≤ updR S.R k _ j
    by_cases c : j = k
    · rw [c, updR_same]; have := hk.pos; omega
    · rw [updR_other _ _ c]; exact r'.fr j hj h1 h2

/-- what mapping does where it can be done. -/
theorem map_facts (r : S.ok n root) (hu : usedN n S.R < n) {pg fr fl : Nat} (hp : pg < 256) (hf : fr < 256) (hl : flagB (fl : Int) = true) (hE : S.E pg = (0, 0)) :
    (mapS n root S pg fr fl).1 = 0 ∧ (mapS n root S pg fr fl).2.ok n root ∧ (mapS n root S pg fr fl).2.E = updE S.E pg (fl, fr) ∧ usedN n (mapS n root S pg fr fl).2.R ≤ usedN n S.R + 1 ∧
      ∀ k, Kept n root S k → Kept n root (mapS n root S pg fr fl).2 k ∧ (mapS n root S pg fr fl).2.R k = S.R k := by
  have hok := map_ok r (pg : Int) (fr : Int) (fl : Int)
  obtain ⟨t, ht⟩ := used_free hu
  obtain ⟨t1, t2, _⟩ := allocF_inv ht
  revert hok
  unfold mapS
  rw [if_pos (by simp [belowB]; omega), if_pos (by simp [belowB]; omega), if_pos hl]
  simp only [Int.toNat_natCast]
  rw [if_pos hE, ht]
  by_cases c : S.T (pg / 16) = (0, 0)
  · rw [if_pos c]
    intro hok
    refine ⟨rfl, hok, rfl, used_upd1 _ _ _ _, fun k hk => ?_⟩
    have hkt : k ≠ t := fun e => by have := hk.pos; rw [e, t2] at this; omega
    have hR : updR S.R t 1 k = S.R k := updR_other _ _ hkt
    refine ⟨⟨hk.lt, by show 0 < updR S.R t 1 k; rw [hR]; exact hk.pos, hk.nr, fun i hi hTi => ?_⟩, hR⟩
    show (updE S.T (pg / 16) (1, t) i).2 ≠ k
    have hTi' : updE S.T (pg / 16) (1, t) i ≠ (0, 0) := hTi
    by_cases ci : i = pg / 16
    · rw [ci, updE_same]; exact Ne.symm hkt
    · rw [updE_other _ _ ci] at hTi' ⊢; exact hk.nt i hi hTi'
  · rw [if_neg c]
    intro hok
    exact ⟨rfl, hok, rfl, Nat.le_succ _, fun k hk => ⟨⟨hk.lt, hk.pos, hk.nr, hk.nt⟩, rfl⟩⟩

/-- a page gets a frame of its own. -/
structure PageF (n root : Nat) (S : PtS) (pg fl : Nat) (s : List UInt8) : Prop where
  ae : allocE n S.R = 0
  tn : allocN n S.R < n
  live : liveB n (allocR n S.R) (allocN n S.R : Nat) = true
  aok : (alloS n S).ok n root
  wok : (writS (alloS n S) (allocN n S.R) s).ok n root
  me : (mapS n root (writS (alloS n S) (allocN n S.R) s) pg (allocN n S.R : Nat) fl).1 = 0
  ok : (pageS n root S pg fl s).ok n root
  E : (pageS n root S pg fl s).E = updE S.E pg (fl, allocN n S.R)
  used : usedN n (pageS n root S pg fl s).R ≤ usedN n S.R + 2
  kept : ∀ k, Kept n root S k → Kept n root (pageS n root S pg fl s) k ∧ (pageS n root S pg fl s).R k = S.R k
  own : Kept n root (pageS n root S pg fl s) (allocN n S.R)

set_option maxRecDepth 100000 in
theorem page_facts (r : S.ok n root) (hu : usedN n S.R + 2 ≤ n) {pg fl : Nat} (hp : pg < 256) (hl : flagB (fl : Int) = true) (hE : S.E pg = (0, 0)) {s : List UInt8} (hs : s.length ≤ 64) : PageF n root S pg fl s := by
  have hn := Rep.hn r
  obtain ⟨t, ht⟩ := used_free (R := S.R) (n := n) (by omega)
  obtain ⟨t1, t2, _⟩ := allocF_inv ht
  obtain ⟨eA, eN, eE⟩ := alloS_some ht
  obtain ⟨ok1, k1⟩ := allo_ok r t2 t1
  rw [← eA] at ok1 k1
  have ok2 := writ_ok ok1 k1 hs
  have k2 : ∀ k, Kept n root (alloS n S) k → Kept n root (writS (alloS n S) t s) k := fun k hk => ⟨hk.lt, hk.pos, hk.nr, hk.nt⟩
  have hu1 : usedN n (alloS n S).R ≤ usedN n S.R + 1 := by rw [eA]; exact used_upd1 _ _ _ _
  have hEw : (writS (alloS n S) t s).E pg = (0, 0) := hE
  have hRe : (alloS n S).R = updR S.R t 1 := by rw [eA]
  obtain ⟨m1, m2, m3, m4, m5⟩ := map_facts ok2 (pg := pg) (fr := t) (fl := fl) (by show usedN n (alloS n S).R < n; omega) hp (by omega) hl hEw
  refine ⟨eE, by rw [eN]; exact t1, ?_, ok1, by rw [eN]; exact ok2, by rw [eN]; exact m1, ?_, ?_, ?_, ?_, ?_⟩
  · rw [eN, show allocR n S.R = updR S.R t 1 from hRe]
    simp [liveB, t1]
  all_goals unfold pageS; rw [eN]
  · exact m2
  · rw [m3]; rfl
  · have : usedN n (writS (alloS n S) t s).R = usedN n (alloS n S).R := rfl
    omega
  · intro k hk
    have hkt : k ≠ t := fun e => by have := hk.pos; rw [e, t2] at this; omega
    have hRk : (alloS n S).R k = S.R k := by rw [hRe]; exact updR_other _ _ hkt
    have hk1 : Kept n root (alloS n S) k := ⟨hk.lt, by rw [hRk]; exact hk.pos, hk.nr, hk.nt⟩
    obtain ⟨a, b⟩ := m5 k (k2 k hk1)
    exact ⟨a, b.trans hRk⟩
  · exact (m5 t (k2 t k1)).1

/-- a page gets a frame that is given. -/
structure ShareF (n root : Nat) (S : PtS) (pg k fl : Nat) : Prop where
  se : shareE n S.R k = 0
  sR : shareR n S.R k = (sharS S k).R
  sok : (sharS S k).ok n root
  me : (mapS n root (sharS S k) pg k fl).1 = 0
  ok : (shpgS n root S pg k fl).ok n root
  E : (shpgS n root S pg k fl).E = updE S.E pg (fl, k)
  used : usedN n (shpgS n root S pg k fl).R ≤ usedN n S.R + 1
  kept : ∀ j, Kept n root S j → Kept n root (shpgS n root S pg k fl) j ∧ (shpgS n root S pg k fl).R j ≤ S.R j + 1

set_option maxRecDepth 100000 in
theorem share_facts (r : S.ok n root) (hu : usedN n S.R < n) {pg k fl : Nat} (hp : pg < 256) (hl : flagB (fl : Int) = true) (hE : S.E pg = (0, 0)) (hk : Kept n root S k) (hm : S.R k < 1000) : ShareF n root S pg k fl := by
  have hn := Rep.hn r
  have hpos := hk.pos
  have hkn := hk.lt
  have hlive : liveB n S.R k = true := by simp [liveB]; omega
  have hse : shareE n S.R k = 0 := by simp [shareE, hlive]; omega
  have k1 : ∀ j, Kept n root S j → Kept n root (sharS S k) j := fun j hj => ⟨hj.lt, by
    show 0 < updR S.R k _ j
    by_cases c : j = k
    · rw [c, updR_same]; omega
    · rw [updR_other _ _ c]; exact hj.pos, hj.nr, hj.nt⟩
  obtain ⟨m1, m2, m3, m4, m5⟩ := map_facts (shar_ok r hk) (pg := pg) (fr := k) (fl := fl) (Nat.lt_of_le_of_lt (used_live S.R (S.R k + 1) (by omega) n) hu) hp (by omega) hl hE
  refine ⟨hse, ?_, shar_ok r hk, m1, m2, m3, Nat.le_trans m4 (Nat.succ_le_succ (used_live S.R (S.R k + 1) (by omega) n)), fun j hj => ?_⟩
  · unfold shareR
    rw [if_pos hse, Int.toNat_natCast]; rfl
  · obtain ⟨a, b⟩ := m5 j (k1 j hj)
    refine ⟨a, ?_⟩
    show (mapS n root (sharS S k) pg k fl).2.R j ≤ _
    rw [b]
    show updR S.R k _ j ≤ _
    by_cases c : j = k
    · rw [c, updR_same]; omega
    · rw [updR_other _ _ c]; omega

/-- pages of a part. -/
structure AddF (n root : Nat) (S : PtS) (pg fl c : Nat) (s : List UInt8) : Prop where
  ok : (addS n root S pg fl s c).ok n root
  used : usedN n (addS n root S pg fl s c).R ≤ usedN n S.R + 2 * c
  kept : ∀ k, Kept n root S k → Kept n root (addS n root S pg fl s c) k ∧ (addS n root S pg fl s c).R k = S.R k
  other : ∀ q, (q < pg ∨ pg + c ≤ q) → (addS n root S pg fl s c).E q = S.E q
  flag : ∀ q, pg ≤ q → q < pg + c → ((addS n root S pg fl s c).E q).1 = fl

set_option maxRecDepth 100000 in
theorem add_facts (r : S.ok n root) {pg fl : Nat} (hl : flagB (fl : Int) = true) (s : List UInt8) : ∀ c : Nat, usedN n S.R + 2 * c ≤ n → pg + c ≤ 256 → (∀ q, pg ≤ q → q < pg + c → S.E q = (0, 0)) → AddF n root S pg fl c s
  | 0, _, _, _ => ⟨r, by show usedN n S.R ≤ _; omega, fun k hk => ⟨hk, rfl⟩, fun _ _ => rfl, fun q h1 h2 => absurd h2 (by omega)⟩
  | c + 1, hu, hp, hE => by
    have ih := add_facts r hl s c (by omega) (by omega) (fun q h1 h2 => hE q h1 (by omega))
    have hs : ((s.drop (64 * c)).take 64).length ≤ 64 := by rw [List.length_take]; exact Nat.min_le_left _ _
    have hEc : (addS n root S pg fl s c).E (pg + c) = (0, 0) := by rw [ih.other _ (.inr (Nat.le_refl _))]; exact hE _ (by omega) (by omega)
    have f := page_facts ih.ok (by have := ih.used; omega) (pg := pg + c) (by omega) hl hEc hs
    refine ⟨f.ok, ?_, fun k hk => ?_, fun q hq => ?_, fun q h1 h2 => ?_⟩
    · have h1 := f.used
      have h2 := ih.used
      show usedN n (pageS n root (addS n root S pg fl s c) (pg + c) fl ((s.drop (64 * c)).take 64)).R ≤ _
      omega
    · obtain ⟨a, b⟩ := ih.kept k hk
      obtain ⟨a2, b2⟩ := f.kept k a
      exact ⟨a2, b2.trans b⟩
    · show (pageS n root (addS n root S pg fl s c) (pg + c) fl ((s.drop (64 * c)).take 64)).E q = _
      rw [f.E, updE_other _ _ (by omega)]
      exact ih.other q (by omega)
    · show ((pageS n root (addS n root S pg fl s c) (pg + c) fl ((s.drop (64 * c)).take 64)).E q).1 = _
      rw [f.E]
      by_cases cq : q = pg + c
      · rw [cq, updE_same]
      · rw [updE_other _ _ cq]; exact ih.flag q h1 (by omega)

end
end Go.Proofs.Ytdkaaoboipphcaa
