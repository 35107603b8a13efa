import PyProof.Rows.All
import Wide.All
import OpenK.AllK
import Wide.FinOn
import HandS.ForMost
import HandS.ForExc
import HandS.Zip
import HandS.Walk
import HandS.IsInst
import HandS.Style
import HandS.TupAny
import HandS.TupMul
import HandS.SortInts
import KE.GoesNew
import KE.GoesMore
import KE.GoesEnum
import HandS.Text
import HandS.Conv
import HandS.More
import PyProof.Rows.SortShellAny
import PyProof.ListStr
import PyProof.AutoSeq1
import HandS.StrMore
import KE.KRevSl
import PyProof.MinMaxWalk
import PyProof.WalkInts
import HandS.Set
import HandS.SetFor
import HandS.SetKeys
import PyProof.Rows.SetFrom
import HandS.DictTup
import HandS.TupSets
import PySem.Challenge.RW_fadinginks_k03_whole_differences
set_option Elab.async false
set_option linter.all false
set_option maxRecDepth 100000
set_option maxHeartbeats 4000000
namespace PF
/-! ### spans as functions: x, y below n -/
structure Closed (s : Nat → Nat → Int) (n : Nat) : Prop where
  diag : ∀ x, x < n → s x x = 0
  tri : ∀ x y z, x < n → y < n → z < n → s x y ≤ s x z + s z y
def Sol (s : Nat → Nat → Int) (n : Nat) (t : Nat → Int) : Prop := ∀ x y, x < n → y < n → t x ≤ t y + s x y
/-- floors, roofs: an event and how much -/
structure Bnds (fl rf : List (Nat × Int)) (n : Nat) : Prop where
  f0 : fl ≠ []
  r0 : rf ≠ []
  f : ∀ p ∈ fl, p.1 < n
  r : ∀ p ∈ rf, p.1 < n
def Fits (s : Nat → Nat → Int) (fl rf : List (Nat × Int)) : Prop := ∀ r ∈ rf, ∀ f ∈ fl, 0 ≤ s r.1 f.1 + r.2 + f.2
def Between (fl rf : List (Nat × Int)) (t : Nat → Int) (n : Nat) : Prop := (∀ f ∈ fl, t f.1 ≤ t n + f.2) ∧ ∀ r ∈ rf, t n ≤ t r.1 + r.2
/-- the least of a list -/
structure Least (l : List Int) (m : Int) : Prop where
  mem : m ∈ l
  le : ∀ y ∈ l, m ≤ y
def minL : List Int → Int
  | [] => 0
  | [x] => x
  | x :: y :: l => min x (minL (y :: l))
theorem minL_least : ∀ l : List Int, l ≠ [] → Least l (minL l)
  | [], h => absurd rfl h
  | [x], _ => ⟨by simp [minL], by simp [minL]⟩
  | x :: y :: l, _ => by
    have ih := minL_least (y :: l) (by simp)
    rw [minL]
    constructor
    · by_cases h : x ≤ minL (y :: l)
      · rw [Int.min_eq_left h]; simp
      · rw [Int.min_eq_right (by omega)]; exact List.mem_cons_of_mem _ ih.mem
    · intro z hz
      rcases List.mem_cons.mp hz with rfl | hz
      · exact Int.min_le_left _ _
      · have := ih.le z hz
        have := Int.min_le_right x (minL (y :: l))
        omega
theorem Least.uniq {l : List Int} {a b : Int} (h : Least l a) (k : Least l b) : a = b := by
  have := h.le b k.mem
  have := k.le a h.mem
  omega
theorem Least.minL {l : List Int} {a : Int} (h : Least l a) : a = minL l := h.uniq (minL_least l (fun z => by have := h.mem; rw [z] at this; cases this))
def above (s : Nat → Nat → Int) (rf : List (Nat × Int)) (e : Nat) : Int := minL (rf.map fun r => s r.1 e + r.2)
def below (s : Nat → Nat → Int) (fl : List (Nat × Int)) (e : Nat) : Int := minL (fl.map fun f => s e f.1 + f.2)
def joinF (s : Nat → Nat → Int) (n : Nat) (fl rf : List (Nat × Int)) (x y : Nat) : Int :=
  if x < n then (if y < n then min (s x y) (below s fl x + above s rf y) else below s fl x) else if y < n then above s rf y else 0
section
variable {s : Nat → Nat → Int} {n : Nat} {fl rf : List (Nat × Int)}
theorem below_at (h : fl ≠ []) (e : Nat) : ∃ f ∈ fl, below s fl e = s e f.1 + f.2 := by
  have := (minL_least (fl.map fun f => s e f.1 + f.2) (by simpa using h)).mem
  obtain ⟨f, hf, e⟩ := List.mem_map.mp this
  exact ⟨f, hf, e.symm⟩
theorem above_at (h : rf ≠ []) (e : Nat) : ∃ r ∈ rf, above s rf e = s r.1 e + r.2 := by
  have := (minL_least (rf.map fun f => s f.1 e + f.2) (by simpa using h)).mem
  obtain ⟨f, hf, e⟩ := List.mem_map.mp this
  exact ⟨f, hf, e.symm⟩
theorem below_le {f : Nat × Int} (h : f ∈ fl) (e : Nat) : below s fl e ≤ s e f.1 + f.2 :=
  (minL_least (fl.map fun f => s e f.1 + f.2) (by intro z; rw [List.map_eq_nil_iff] at z; subst z; cases h)).le _ (List.mem_map_of_mem h)
theorem above_le {f : Nat × Int} (h : f ∈ rf) (e : Nat) : above s rf e ≤ s f.1 e + f.2 :=
  (minL_least (rf.map fun f => s f.1 e + f.2) (by intro z; rw [List.map_eq_nil_iff] at z; subst z; cases h)).le _ (List.mem_map_of_mem (f := fun f : Nat × Int => s f.1 e + f.2) h)
theorem below_tri (C : Closed s n) (B : Bnds fl rf n) {x z : Nat} (hx : x < n) (hz : z < n) : below s fl x ≤ s x z + below s fl z := by
  obtain ⟨f, hf, e⟩ := below_at (s := s) B.f0 z
  have := below_le (s := s) hf x
  have := C.tri x f.1 z hx (B.f f hf) hz
  omega
theorem above_tri (C : Closed s n) (B : Bnds fl rf n) {x z : Nat} (hx : x < n) (hz : z < n) : above s rf x ≤ above s rf z + s z x := by
  obtain ⟨f, hf, e⟩ := above_at (s := s) B.r0 z
  have := above_le (s := s) hf x
  have := C.tri f.1 x z (B.r f hf) hx hz
  omega
theorem turn_pos (C : Closed s n) (B : Bnds fl rf n) (F : Fits s fl rf) {z : Nat} (hz : z < n) : 0 ≤ above s rf z + below s fl z := by
  obtain ⟨f, hf, e⟩ := below_at (s := s) B.f0 z
  obtain ⟨r, hr, e'⟩ := above_at (s := s) B.r0 z
  have := F r hr f hf
  have := C.tri r.1 f.1 z (B.r r hr) (B.f f hf) hz
  omega
theorem Closed.join (C : Closed s n) (B : Bnds fl rf n) (F : Fits s fl rf) : Closed (joinF s n fl rf) (n + 1) := by
  constructor
  · intro x hx
    unfold joinF
    by_cases h : x < n
    · have := turn_pos C B F h
      have := C.diag x h
      simp only [h, if_true]
      rw [Int.min_eq_left (by omega)]
      exact C.diag x h
    · simp [h]
  · intro x y z hx hy hz
    unfold joinF
    by_cases h1 : x < n <;> by_cases h2 : y < n <;> by_cases h3 : z < n <;> simp only [h1, h2, h3, if_true, if_false]
    · have := C.tri x y z h1 h2 h3
      have := below_tri C B h1 h3
      have := above_tri C B h2 h3
      have := turn_pos C B F h3
      omega
    · have := Int.min_le_right (s x y) (below s fl x + above s rf y)
      omega
    · have := below_tri C B h1 h3
      have := turn_pos C B F h3
      omega
    · omega
    · have := above_tri C B h2 h3
      have := turn_pos C B F h3
      omega
    · omega
    · have := turn_pos C B F h3
      omega
    · omega
theorem sol_join (C : Closed s n) (B : Bnds fl rf n) (t : Nat → Int) : Sol (joinF s n fl rf) (n + 1) t ↔ Sol s n t ∧ Between fl rf t n := by
  constructor
  · intro h
    refine ⟨fun x y hx hy => ?_, fun f hf => ?_, fun r hr => ?_⟩
    · have := h x y (by omega) (by omega)
      unfold joinF at this
      simp only [hx, hy, if_true] at this
      have := Int.min_le_left (s x y) (below s fl x + above s rf y)
      omega
    · have := h f.1 n (by have := B.f f hf; omega) (by omega)
      unfold joinF at this
      simp only [B.f f hf, Nat.lt_irrefl, if_true, if_false] at this
      have := below_le (s := s) hf f.1
      have := C.diag f.1 (B.f f hf)
      omega
    · have := h n r.1 (by omega) (by have := B.r r hr; omega)
      unfold joinF at this
      simp only [B.r r hr, Nat.lt_irrefl, if_true, if_false] at this
      have := above_le (s := s) hr r.1
      have := C.diag r.1 (B.r r hr)
      omega
  · rintro ⟨h, hf, hr⟩ x y hx hy
    have hb : ∀ x, x < n → t x ≤ t n + below s fl x := fun x hx => by
      obtain ⟨f, h1, e⟩ := below_at (s := s) B.f0 x
      have := hf f h1
      have := h x f.1 hx (B.f f h1)
      omega
    have ha : ∀ y, y < n → t n ≤ t y + above s rf y := fun y hy => by
      obtain ⟨f, h1, e⟩ := above_at (s := s) B.r0 y
      have := hr f h1
      have := h f.1 y (B.r f h1) hy
      omega
    unfold joinF
    by_cases h1 : x < n <;> by_cases h2 : y < n <;> simp only [h1, h2, if_true, if_false]
    · have := hb x h1
      have := ha y h2
      have := h x y h1 h2
      omega
    · have : y = n := by omega
      subst this
      exact hb x h1
    · have : x = n := by omega
      subst this
      exact ha y h2
    · have : x = n := by omega
      have : y = n := by omega
      subst x y
      omega
theorem sol_last (C : Closed s n) {z : Nat} (hz : z < n) : Sol s n fun x => s x z := fun x y hx hy => by
  have := C.tri x z y hx hz hy
  show s x z ≤ s y z + s x y
  omega
theorem fits_of (B : Bnds fl rf n) {t : Nat → Int} (h : Sol s n t) (b : Between fl rf t n) : Fits s fl rf := fun r hr f hf => by
  have := h r.1 f.1 (B.r r hr) (B.f f hf)
  have := b.1 f hf
  have := b.2 r hr
  omega
end
/-- agreement below n -/
theorem Sol.congr {s : Nat → Nat → Int} {n : Nat} {t u : Nat → Int} (h : ∀ x, x < n → t x = u x) (k : Sol s n t) : Sol s n u := fun x y hx hy => by
  rw [← h x hx, ← h y hy]; exact k x y hx hy
theorem Sol.shift {s : Nat → Nat → Int} {n : Nat} {t : Nat → Int} (c : Int) (k : Sol s n t) : Sol s n fun x => t x - c := fun x y hx hy => by
  have := k x y hx hy
  show t x - c ≤ t y - c + s x y
  omega
theorem Sol.congrS {s u : Nat → Nat → Int} {n : Nat} {t : Nat → Int} (h : ∀ x y, x < n → y < n → s x y = u x y) (k : Sol s n t) : Sol u n t := fun x y hx hy => by
  rw [← h x y hx hy]; exact k x y hx hy
theorem Closed.congr {s u : Nat → Nat → Int} {n : Nat} (h : ∀ x y, x < n → y < n → s x y = u x y) (k : Closed s n) : Closed u n :=
  ⟨fun x hx => by rw [← h x x hx hx]; exact k.diag x hx, fun x y z hx hy hz => by rw [← h x y hx hy, ← h x z hx hz, ← h z y hz hy]; exact k.tri x y z hx hy hz⟩
end PF
namespace PF
/-! ### spans of a chain -/
def pre : List Int → Nat → Int
  | [], _ => 0
  | _ :: _, 0 => 0
  | x :: l, k + 1 => x + pre l k
theorem pre_zero (l : List Int) : pre l 0 = 0 := by cases l <;> rfl
theorem pre_succ : ∀ (l : List Int) (k : Nat), k < l.length → pre l (k + 1) = pre l k + l.getD k 0
  | [], k, h => by simp at h
  | x :: l, 0, _ => by simp [pre, pre_zero]
  | x :: l, k + 1, h => by
    have := pre_succ l k (by simpa using h)
    simp only [pre, this]
    simp
    omega
def chainF (bs : List (Int × Int)) (x y : Nat) : Int := if y < x then pre (bs.map (·.2)) x - pre (bs.map (·.2)) y else pre (bs.map (·.1)) x - pre (bs.map (·.1)) y
/-- rests within their bounds, one behind the other -/
def Rests (bs : List (Int × Int)) (t : Nat → Int) : Prop := ∀ i (h : i < bs.length), bs[i].1 ≤ t (i + 1) - t i ∧ t (i + 1) - t i ≤ bs[i].2
def Rising (bs : List (Int × Int)) : Prop := ∀ b ∈ bs, b.1 ≤ b.2
section
variable {bs : List (Int × Int)}
theorem pre1 {i : Nat} (h : i < bs.length) : pre (bs.map (·.1)) (i + 1) = pre (bs.map (·.1)) i + bs[i].1 := by
  rw [pre_succ _ _ (by simpa using h)]; simp [h]
theorem pre2 {i : Nat} (h : i < bs.length) : pre (bs.map (·.2)) (i + 1) = pre (bs.map (·.2)) i + bs[i].2 := by
  rw [pre_succ _ _ (by simpa using h)]; simp [h]
theorem gap_mono (R : Rising bs) (x : Nat) : ∀ d : Nat, x + d < bs.length + 1 → pre (bs.map (·.2)) x - pre (bs.map (·.1)) x ≤ pre (bs.map (·.2)) (x + d) - pre (bs.map (·.1)) (x + d)
  | 0, _ => by simp
  | d + 1, h => by
    have ih := gap_mono R x d (by omega)
    have h' : x + d < bs.length := by omega
    have e1 := pre1 h'
    have e2 := pre2 h'
    have := R _ (List.getElem_mem h')
    show _ ≤ pre _ (x + d + 1) - pre _ (x + d + 1)
    omega
theorem gap_le (R : Rising bs) {x y : Nat} (h : x ≤ y) (hy : y < bs.length + 1) : pre (bs.map (·.2)) x - pre (bs.map (·.1)) x ≤ pre (bs.map (·.2)) y - pre (bs.map (·.1)) y := by
  have := gap_mono R x (y - x) (by omega)
  rwa [show x + (y - x) = y by omega] at this
theorem chain_closed (R : Rising bs) : Closed (chainF bs) (bs.length + 1) := by
  refine ⟨fun x _ => by simp [chainF], fun x y z hx hy hz => ?_⟩
  have g : ∀ {x y}, x ≤ y → y < bs.length + 1 → _ := fun {x y} => gap_le (bs := bs) R (x := x) (y := y)
  unfold chainF
  by_cases h1 : y < x <;> by_cases h2 : z < x <;> by_cases h3 : y < z <;> simp only [h1, h2, h3, if_true, if_false]
  · omega
  · have := g (show z ≤ y by omega) hy; omega
  · have := g (show x ≤ z by omega) hz; omega
  · omega
  · omega
  · have := g (show z ≤ x by omega) hx; omega
  · have := g (show y ≤ z by omega) hz; omega
  · omega
theorem chain_up {t : Nat → Int} (h : Rests bs t) (x : Nat) : ∀ d : Nat, x + d < bs.length + 1 → pre (bs.map (·.1)) (x + d) - pre (bs.map (·.1)) x ≤ t (x + d) - t x ∧ t (x + d) - t x ≤ pre (bs.map (·.2)) (x + d) - pre (bs.map (·.2)) x
  | 0, _ => by simp
  | d + 1, hd => by
    have ih := chain_up h x d (by omega)
    have h' : x + d < bs.length := by omega
    have e1 := pre1 h'
    have e2 := pre2 h'
    have := h _ h'
    show pre _ (x + d + 1) - _ ≤ t (x + d + 1) - t x ∧ t (x + d + 1) - t x ≤ pre _ (x + d + 1) - _
    omega
theorem chain_sol (t : Nat → Int) : Sol (chainF bs) (bs.length + 1) t ↔ Rests bs t := by
  constructor
  · intro h i hi
    have a := h i (i + 1) (by omega) (by omega)
    have b := h (i + 1) i (by omega) (by omega)
    unfold chainF at a b
    simp only [show ¬ (i + 1 < i) by omega, show i < i + 1 by omega, if_true, if_false] at a b
    have e1 := pre1 hi
    have e2 := pre2 hi
    omega
  · intro h x y hx hy
    unfold chainF
    by_cases c : y < x
    · have := chain_up h y (x - y) (by omega)
      rw [show y + (x - y) = x by omega] at this
      simp only [c, if_true]
      omega
    · have := chain_up h x (y - x) (by omega)
      rw [show x + (y - x) = y by omega] at this
      simp only [c, if_false]
      omega
end

/-! ### cases of a look -/
section
variable (cell : Nat → Int) (stay : Nat → Int) (m : Nat) (t : Nat → Int) (c τ : Int)
/-- the last below m for which V is so -/
def Last (m : Nat) (V : Nat → Prop) : Option Nat → Prop
  | none => ∀ i, i < m → ¬ V i
  | some k => k < m ∧ V k ∧ ∀ j, k < j → j < m → ¬ V j
def Vis (i : Nat) : Prop := cell i = c ∧ t (i + 1) ≤ τ ∧ τ < t (i + 1) + stay i
def later : Option Nat → Nat
  | none => 0
  | some k => k + 1
structure CaseSat (done : Nat) (shown : Option Nat) : Prop where
  le : done ≤ m
  up : 0 < done → t done ≤ τ
  dn : done < m → τ ≤ t (done + 1) - 1
  there : ∀ k, shown = some k → k < done ∧ cell k = c ∧ τ ≤ t (k + 1) + (stay k - 1)
  gone : ∀ j, later shown ≤ j → j < done → cell j = c → t (j + 1) ≤ τ - stay j
def Mono : Prop := ∀ i, i + 1 < m → t (i + 1) ≤ t (i + 2)
variable {cell stay m t c τ}
theorem Mono.le (h : Mono m t) (i : Nat) : ∀ d : Nat, i + d < m → t (i + 1) ≤ t (i + d + 1)
  | 0, _ => by simp
  | d + 1, hd => by
    have := h.le i d (by omega)
    have := h (i + d) (by omega)
    show _ ≤ t (i + d + 2)
    omega
theorem Mono.le' (h : Mono m t) {i j : Nat} (hij : i ≤ j) (hj : j < m) : t (i + 1) ≤ t (j + 1) := by
  have := h.le i (j - i) (by omega)
  rwa [show i + (j - i) + 1 = j + 1 by omega] at this
theorem CaseSat.below {done : Nat} {shown : Option Nat} (h : CaseSat cell stay m t c τ done shown) (M : Mono m t) {i : Nat} (hi : i < done) : t (i + 1) ≤ τ := by
  have := h.up (by omega)
  have := M.le' (i := i) (j := done - 1) (by omega) (by have := h.le; omega)
  rw [show done - 1 + 1 = done by omega] at this
  omega
theorem CaseSat.above {done : Nat} {shown : Option Nat} (h : CaseSat cell stay m t c τ done shown) (M : Mono m t) {i : Nat} (hi : done ≤ i) (hm : i < m) : τ < t (i + 1) := by
  have := h.dn (by omega)
  have := M.le' (i := done) (j := i) hi hm
  omega
theorem CaseSat.last {done : Nat} {shown : Option Nat} (h : CaseSat cell stay m t c τ done shown) (M : Mono m t) : Last m (Vis cell stay t c τ) shown := by
  have no : ∀ j, later shown ≤ j → j < m → ¬ Vis cell stay t c τ j := fun j h1 h2 ⟨v1, v2, v3⟩ => by
    by_cases hd : j < done
    · have := h.gone j h1 hd v1
      omega
    · have := h.above M (by omega) h2
      omega
  cases shown with
  | none => exact fun i hi => no i (Nat.zero_le _) hi
  | some k =>
    obtain ⟨h1, h2, h3⟩ := h.there k rfl
    exact ⟨by have := h.le; omega, ⟨h2, h.below M h1, by omega⟩, fun j hj hm => no j hj hm⟩
/-- how many are done by then -/
theorem done_ex (M : Mono m t) (τ : Int) : ∀ k, k ≤ m → ∃ d, d ≤ k ∧ (0 < d → t d ≤ τ) ∧ (d < k → τ ≤ t (d + 1) - 1)
  | 0, _ => ⟨0, Nat.le_refl _, by omega, by omega⟩
  | k + 1, hk => by
    obtain ⟨d, h1, h2, h3⟩ := done_ex M τ k (by omega)
    by_cases h : d = k
    · subst h
      by_cases g : t (d + 1) ≤ τ
      · exact ⟨d + 1, Nat.le_refl _, fun _ => g, by omega⟩
      · exact ⟨d, by omega, h2, fun _ => by omega⟩
    · exact ⟨d, by omega, h2, fun _ => h3 (by omega)⟩
theorem last_ex (V : Nat → Prop) : ∀ m, ∃ r, Last m V r
  | 0 => ⟨none, by intro i hi; omega⟩
  | m + 1 => by
    obtain ⟨r, hr⟩ := last_ex V m
    by_cases h : V m
    · exact ⟨some m, by omega, h, by intro j h1 h2; omega⟩
    · cases r with
      | none => exact ⟨none, fun i hi => by
          by_cases e : i = m
          · subst e; exact h
          · exact hr i (by omega)⟩
      | some k => exact ⟨some k, by have := hr.1; omega, hr.2.1, fun j h1 h2 => by
          by_cases e : j = m
          · subst e; exact h
          · exact hr.2.2 j h1 (by omega)⟩
theorem last_uniq {V : Nat → Prop} {m : Nat} {a b : Option Nat} (h : Last m V a) (k : Last m V b) : a = b := by
  cases a with
  | none =>
    cases b with
    | none => rfl
    | some j => exact absurd k.2.1 (h j k.1)
  | some i =>
    cases b with
    | none => exact absurd h.2.1 (k i h.1)
    | some j =>
      have : i = j := by
        by_cases e : i < j
        · exact absurd k.2.1 (h.2.2 j e k.1)
        · by_cases e' : j < i
          · exact absurd h.2.1 (k.2.2 i e' h.1)
          · omega
      rw [this]
theorem case_ex (M : Mono m t) : ∃ done shown, CaseSat cell stay m t c τ done shown := by
  obtain ⟨d, h1, h2, h3⟩ := done_ex M τ m (Nat.le_refl _)
  obtain ⟨r, hr⟩ := last_ex (Vis cell stay t c τ) m
  have bel : ∀ i, i < d → t (i + 1) ≤ τ := fun i hi => by
    have := h2 (by omega)
    have := M.le' (i := i) (j := d - 1) (by omega) (by omega)
    rw [show d - 1 + 1 = d by omega] at this
    omega
  refine ⟨d, r, h1, h2, h3, fun k hk => ?_, fun j hj1 hj2 hc => ?_⟩
  · subst hk
    obtain ⟨a, ⟨b1, b2, b3⟩, _⟩ := hr
    refine ⟨?_, b1, by omega⟩
    by_cases g : k < d
    · exact g
    · have := h3 (by omega)
      have := M.le' (i := d) (j := k) (by omega) a
      omega
  · have nv : ¬ Vis cell stay t c τ j := by
      cases r with
      | none => exact hr j (by omega)
      | some k => exact hr.2.2 j hj1 (by omega)
    have := bel j hj2
    by_cases g : τ < t (j + 1) + stay j
    · exact absurd ⟨hc, this, g⟩ nv
    · omega
theorem CaseSat.uniq {d e : Nat} {r q : Option Nat} (h : CaseSat cell stay m t c τ d r) (k : CaseSat cell stay m t c τ e q) (M : Mono m t) : d = e ∧ r = q := by
  refine ⟨?_, last_uniq (h.last M) (k.last M)⟩
  have a := h.le
  have b := k.le
  by_cases g : d < e
  · have := h.above M (i := d) (by omega) (by omega)
    have := k.below M (i := d) g
    omega
  · by_cases g' : e < d
    · have := k.above M (i := e) (by omega) (by omega)
      have := h.below M (i := e) g'
      omega
    · omega
end
end PF
/-! PD: values by what they say (data), over the hand layer. -/
namespace PD
open PySem PySem.Spec PyProof.Rows L2

abbrev Fg := PySem.W.Frag
abbrev Dt := PyData

def keyD : Key → Dt
  | .inl i => .int i
  | .inr s => .str s

/-- the first entry of a dict whose keys are tuples, as data: a mark -/
def markE : Dt × Dt := (.none, .none)
def entD (p : List Key × Dt) : Dt × Dt := (.tuple (p.1.map keyD), p.2)
/-! ### what a value says, over the frozen heap G -/
mutual
inductive Rep (K : Fg) (G : Hp) : V → Dt → Prop
  | non : Rep K G .non .none
  | bl (b : Bool) : Rep K G (.bl b) (.bool b)
  | int (i : Int) : Rep K G (.int i) (.int i)
  | str (x : Str) : Rep K G (.str x) (.str x)
  | lst {a : Addr} {xs : List V} {ds : List Dt} : G a = some (.lst xs) → Reps K G xs ds → Rep K G (.ref a) (.list ds)
  | tup {a : Addr} {xs : List V} {ds : List Dt} : G a = some (.tup xs) → Reps K G xs ds → Rep K G (.ref a) (.tuple ds)
  | dic {a : Addr} {o : Obj} {kvs : List (Key × V)} {ds : List (Dt × Dt)} : G a = some (.frz o (.dK kvs)) → RepK K G kvs ds → Rep K G (.ref a) (.dict ds)
  | dicT {a : Addr} {o : Obj} {kvs : List (List Key × V)} {l : List (List Key × Dt)} : G a = some (.frz o (.dT kvs)) → RepT K G kvs l → Rep K G (.ref a) (.dict (markE :: l.map entD))
inductive Reps (K : Fg) (G : Hp) : List V → List Dt → Prop
  | nil : Reps K G [] []
  | cons {v : V} {vs : List V} {d : Dt} {ds : List Dt} : Rep K G v d → Reps K G vs ds → Reps K G (v :: vs) (d :: ds)
inductive RepK (K : Fg) (G : Hp) : List (Key × V) → List (Dt × Dt) → Prop
  | nil : RepK K G [] []
  | cons {k : Key} {v : V} {vs : List (Key × V)} {d : Dt} {ds : List (Dt × Dt)} : Rep K G v d → RepK K G vs ds → RepK K G ((k, v) :: vs) ((keyD k, d) :: ds)
inductive RepT (K : Fg) (G : Hp) : List (List Key × V) → List (List Key × Dt) → Prop
  | nil : RepT K G [] []
  | cons {k : List Key} {v : V} {vs : List (List Key × V)} {d : Dt} {ds : List (List Key × Dt)} : Rep K G v d → RepT K G vs ds → RepT K G ((k, v) :: vs) ((k, d) :: ds)
end

theorem same_rd {H H' : Hp} {a : Addr} {u : HO} (e : Same H H') (h : Rd H a u) : Rd H' a u := h.elim (fun h => .inl (e _ _ h)) fun ⟨o, h⟩ => .inr ⟨o, e _ _ h⟩
theorem same_seqT {K : Fg} {H H' : Hp} {a : Addr} {xs : List V} (e : Same H H') (h : SqT K H a xs) : SqT K H' a xs := by
  rcases h with (h | ⟨o, h⟩) | h
  · exact .inl (.inl (e _ _ h))
  · exact .inl (.inr ⟨o, e _ _ h⟩)
  · exact .inr h

theorem same_seqP {K : Fg} {H H' : Hp} {a : Addr} {xs : List V} (e : Same H H') (h : H a = some (.tup xs)) : SqT K H' a xs := .inl (.inl (e _ _ h))
section
variable {K : Fg} {G G' H : Hp}
theorem Rep.mono (h : Same G G') {v : V} {d : Dt} (r : Rep K G v d) : Rep K G' v d :=
  Rep.rec (motive_1 := fun v d _ => Rep K G' v d) (motive_2 := fun vs ds _ => Reps K G' vs ds) (motive_3 := fun vs ds _ => RepK K G' vs ds) (motive_4 := fun vs ds _ => RepT K G' vs ds)
    .non .bl .int .str (fun e _ ih => .lst (h _ _ e) ih) (fun e _ ih => .tup (h _ _ e) ih) (fun e _ ih => .dic (h _ _ e) ih) (fun e _ ih => .dicT (h _ _ e) ih)
    .nil (fun _ _ a b => .cons a b) .nil (fun _ _ a b => .cons a b) .nil (fun _ _ a b => .cons a b) r
theorem Reps.mono (h : Same G G') : ∀ {vs : List V} {ds : List Dt}, Reps K G vs ds → Reps K G' vs ds
  | _, _, .nil => .nil
  | _, _, .cons a b => .cons (a.mono h) (Reps.mono h b)
theorem RepK.mono (h : Same G G') : ∀ {vs : List (Key × V)} {ds : List (Dt × Dt)}, RepK K G vs ds → RepK K G' vs ds
  | _, _, .nil => .nil
  | _, _, .cons a b => .cons (a.mono h) (RepK.mono h b)
theorem RepT.mono (h : Same G G') : ∀ {vs : List (List Key × V)} {ds : List (List Key × Dt)}, RepT K G vs ds → RepT K G' vs ds
  | _, _, .nil => .nil
  | _, _, .cons a b => .cons (a.mono h) (RepT.mono h b)
theorem RepT.length : ∀ {vs : List (List Key × V)} {ds : List (List Key × Dt)}, RepT K G vs ds → vs.length = ds.length
  | _, _, .nil => rfl
  | _, _, .cons _ b => by simp [RepT.length b]
theorem Reps.length : ∀ {vs : List V} {ds : List Dt}, Reps K G vs ds → vs.length = ds.length
  | _, _, .nil => rfl
  | _, _, .cons _ b => by simp [Reps.length b]
theorem RepK.length : ∀ {vs : List (Key × V)} {ds : List (Dt × Dt)}, RepK K G vs ds → vs.length = ds.length
  | _, _, .nil => rfl
  | _, _, .cons _ b => by simp [RepK.length b]
theorem Reps.get : ∀ {vs : List V} {ds : List Dt} {i : Nat} {d : Dt}, Reps K G vs ds → ds[i]? = some d → ∃ v, vs[i]? = some v ∧ Rep K G v d
  | _, _, _, _, .nil, e => by simp at e
  | _, _, 0, _, .cons r _, e => by simp at e; subst e; exact ⟨_, rfl, r⟩
  | _, _, i + 1, _, .cons _ t, e => by
    obtain ⟨u, h1, h2⟩ := Reps.get (i := i) t (by simpa using e)
    exact ⟨u, by simpa using h1, h2⟩
theorem Reps.get' : ∀ {vs : List V} {ds : List Dt} {i : Nat} {v : V}, Reps K G vs ds → vs[i]? = some v → ∃ d, ds[i]? = some d ∧ Rep K G v d
  | _, _, _, _, .nil, e => by simp at e
  | _, _, 0, _, .cons r _, e => by simp at e; subst e; exact ⟨_, rfl, r⟩
  | _, _, i + 1, _, .cons _ t, e => by
    obtain ⟨u, h1, h2⟩ := Reps.get' (i := i) t (by simpa using e)
    exact ⟨u, by simpa using h1, h2⟩
theorem Reps.append : ∀ {xs ys : List V} {ds es : List Dt}, Reps K G xs ds → Reps K G ys es → Reps K G (xs ++ ys) (ds ++ es)
  | _, _, _, _, .nil, s => s
  | _, _, _, _, .cons r t, s => .cons r (Reps.append t s)
theorem Reps.snoc {xs : List V} {ds : List Dt} {v : V} {d : Dt} (r : Reps K G xs ds) (h : Rep K G v d) : Reps K G (xs ++ [v]) (ds ++ [d]) := r.append (.cons h .nil)
theorem Reps.set {v : V} {d : Dt} (h : Rep K G v d) : ∀ {xs : List V} {ds : List Dt} (i : Nat), Reps K G xs ds → Reps K G (xs.set i v) (ds.set i d)
  | _, _, _, .nil => .nil
  | _, _, 0, .cons _ t => .cons h t
  | _, _, i + 1, .cons q t => .cons q (Reps.set h i t)
theorem Reps.take : ∀ {xs : List V} {ds : List Dt} (n : Nat), Reps K G xs ds → Reps K G (xs.take n) (ds.take n)
  | _, _, 0, _ => .nil
  | _, _, _ + 1, .nil => .nil
  | _, _, n + 1, .cons r t => .cons r (Reps.take n t)
theorem Reps.drop : ∀ {xs : List V} {ds : List Dt} (n : Nat), Reps K G xs ds → Reps K G (xs.drop n) (ds.drop n)
  | _, _, 0, r => r
  | _, _, _ + 1, .nil => .nil
  | _, _, n + 1, .cons _ t => Reps.drop n t
theorem Reps.rep {xs : List V} {ds : List Dt} (h : Reps K G xs ds) : ∀ k : Nat, Reps K G (List.replicate k xs).flatten (List.replicate k ds).flatten
  | 0 => .nil
  | k + 1 => by
    rw [List.replicate_succ, List.replicate_succ, List.flatten_cons, List.flatten_cons]
    exact h.append (Reps.rep h k)
theorem Reps.ints : ∀ {ns : List Int} {vs : List V}, Reps K G vs (ns.map .int) → vs = ns.map V.int
  | [], _, h => by cases h; rfl
  | n :: ns, _, h => by
    cases h with
    | cons a b => cases a; rw [Reps.ints b]; rfl
theorem Reps.bls : ∀ {ns : List Bool} {vs : List V}, Reps K G vs (ns.map .bool) → vs = ns.map V.bl
  | [], _, h => by cases h; rfl
  | n :: ns, _, h => by
    cases h with
    | cons a b => cases a; rw [Reps.bls b]; rfl
theorem Reps.strs : ∀ {ns : List Str} {vs : List V}, Reps K G vs (ns.map .str) → vs = ns.map V.str
  | [], _, h => by cases h; rfl
  | n :: ns, _, h => by
    cases h with
    | cons a b => cases a; rw [Reps.strs b]; rfl
theorem Reps.of_ints : ∀ {ns : List Int}, Reps K G (ns.map V.int) (ns.map .int)
  | [] => .nil
  | _ :: _ => .cons (.int _) Reps.of_ints
theorem Reps.of_strs : ∀ {ns : List Str}, Reps K G (ns.map V.str) (ns.map .str)
  | [] => .nil
  | _ :: _ => .cons (.str _) Reps.of_strs
end

/-! ### the law's own stream of draws: a list of the script and three ints -/
def RowOk (K : Fg) (G H : Hp) (a : Addr) : Prop := ∃ (sa : Addr) (ns : List Int) (i s q : Int), H a = some (.lst [.ref sa, .int i, .int s, .int q]) ∧ SqL K G sa (ns.map V.int) ∧ 0 ≤ i
theorem RowOk.at {K : Fg} {G G' H H' : Hp} {a : Addr} (h : RowOk K G H a) (g : Same G G') (e : H' a = H a) : RowOk K G' H' a := by
  obtain ⟨sa, ns, i, s, q, h1, h2, h3⟩ := h
  exact ⟨sa, ns, i, s, q, e.trans h1, g.seq h2, h3⟩

/-! ### how the heaps go on -/
structure Grow (K : Fg) (r : Option Addr) (G H G' H' : Hp) : Prop where
  g : Same G G'
  h : ∀ b o, r ≠ some b → H b = some o → H' b = some o
  gh : Same G' H'
  y : ∀ b o, H b = some o → G b = none → G' b = none
  row : ∀ a, r = some a → RowOk K G' H' a
structure Start (K : Fg) (r : Option Addr) (G H : Hp) : Prop where
  gh : Same G H
  row : ∀ a, r = some a → G a = none ∧ RowOk K G H a
section
variable {K : Fg} {r : Option Addr} {G H G' H' G2 H2 : Hp}
theorem Start.grow (S : Start K r G H) : Grow K r G H G H := ⟨Same.refl _, fun _ _ _ e => e, S.gh, fun _ _ _ e => e, fun a e => (S.row a e).2⟩
theorem Grow.start (W : Grow K r G H G' H') (S : Start K r G H) : Start K r G' H' := ⟨W.gh, fun a e => by
  obtain ⟨h1, _, _, _, _, _, h2, _⟩ := S.row a e
  exact ⟨W.y _ _ h2 h1, W.row a e⟩⟩
theorem Grow.there (W : Grow K r G H G' H') {b : Addr} {o : HO} (e : H b = some o) : ∃ o', H' b = some o' := by
  by_cases h : r = some b
  · obtain ⟨_, _, _, _, _, q, _⟩ := W.row b h
    exact ⟨_, q⟩
  · exact ⟨_, W.h b o h e⟩
theorem Grow.trans (a : Grow K r G H G' H') (b : Grow K r G' H' G2 H2) : Grow K r G H G2 H2 :=
  ⟨a.g.trans b.g, fun c o h e => b.h c o h (a.h c o h e), b.gh, fun c o e n => by
    obtain ⟨o', e'⟩ := a.there e
    exact b.y c o' e' (a.y c o e n), b.row⟩
/-- a new object, frozen at once -/
theorem Start.lay (S : Start K r G H) {p : Addr} {o : HO} (hp : H p = none) : Grow K r G H (upd G p o) (upd H p o) := by
  have gp : G p = none := S.gh.free hp
  refine ⟨fun b u e => ?_, fun b u _ e => ?_, fun b u e => ?_, fun b u e n => ?_, fun a e => ?_⟩
  · rw [upd_ne (ne_of_none e gp)]; exact e
  · rw [upd_ne (ne_of_none e hp)]; exact e
  · by_cases hb : b = p
    · subst hb; rw [upd_same] at e ⊢; exact e
    · rw [upd_ne hb] at e ⊢; exact S.gh _ _ e
  · rw [upd_ne (ne_of_none e hp)]; exact n
  · have q := (S.row a e).2
    obtain ⟨_, _, _, _, _, h2, _⟩ := id q
    exact q.at (fun b u e => by rw [upd_ne (ne_of_none e gp)]; exact e) (upd_ne (ne_of_none h2 hp))
theorem same_upd {H : Hp} {p : Addr} {o : HO} (h : H p = none) : Same H (upd H p o) := fun b x e => by
  rw [upd_ne (ne_of_none e h)]
  exact e
end

/-! ### the fields of an instance -/
inductive RepF (K : Fg) (G : Hp) : List (Str × V) → List (Str × Dt) → Prop
  | nil : RepF K G [] []
  | cons {f : Str} {v : V} {vs : List (Str × V)} {d : Dt} {ds : List (Str × Dt)} : Rep K G v d → RepF K G vs ds → RepF K G ((f, v) :: vs) ((f, d) :: ds)
theorem RepF.mono {K : Fg} {G G' : Hp} (h : Same G G') : ∀ {vs : List (Str × V)} {ds : List (Str × Dt)}, RepF K G vs ds → RepF K G' vs ds
  | _, _, .nil => .nil
  | _, _, .cons a b => .cons (a.mono h) (RepF.mono h b)
/-- a field's value: data, or a list of the instance's own -/
inductive Fv where
  | d (x : Dt)
  | own (b : Addr) (x : List Dt)

/-! ### the slots -/
inductive PV where
  | un
  | d (x : Dt)
  | own (x : Dt)
  | row
  | scr (ns : List Int)
  | rng (lo hi : Int)
  | ins (C : Addr) (fs : List (Str × Dt))
  | obj (C a : Addr) (fs : List (Str × Fv))
  | fz (p : Fg → Hp → V → Prop)
/-- an object of one's own, by what it says -/
inductive OwnR (K : Fg) (G H : Hp) (a : Addr) : Dt → Prop
  | lst {vs : List V} {ds : List Dt} : H a = some (.lst vs) → Reps K G vs ds → OwnR K G H a (.list ds)
  | dic {kvs : List (Key × V)} {ds : List (Dt × Dt)} : H a = some (.dK kvs) → RepK K G kvs ds → OwnR K G H a (.dict ds)
  | dicT {kvs : List (List Key × V)} {l : List (List Key × Dt)} : H a = some (.dT kvs) → RepT K G kvs l → OwnR K G H a (.dict (markE :: l.map entD))
theorem OwnR.at {K : Fg} {G G' H H' : Hp} {a : Addr} {d : Dt} (h : OwnR K G H a d) (g : Same G G') (e : H' a = H a) : OwnR K G' H' a d := by
  cases h with
  | lst h r => exact .lst (e.trans h) (r.mono g)
  | dic h r => exact .dic (e.trans h) (r.mono g)
  | dicT h r => exact .dicT (e.trans h) (r.mono g)
theorem OwnR.some {K : Fg} {G H : Hp} {a : Addr} {d : Dt} (h : OwnR K G H a d) : ∃ o, H a = some o := by
  cases h with
  | lst h r => exact ⟨_, h⟩
  | dic h r => exact ⟨_, h⟩
  | dicT h r => exact ⟨_, h⟩
/-- the addresses that an instance of one's own takes -/
def fps : List (Str × Fv) → List Addr
  | [] => []
  | (_, .d _) :: fs => fps fs
  | (_, .own b _) :: fs => b :: fps fs
inductive ObF (K : Fg) (G H : Hp) : List (Str × V) → List (Str × Fv) → Prop
  | nil : ObF K G H [] []
  | d {f : Str} {v : V} {vs : List (Str × V)} {d : Dt} {fs : List (Str × Fv)} : Rep K G v d → ObF K G H vs fs → ObF K G H ((f, v) :: vs) ((f, .d d) :: fs)
  | own {f : Str} {b : Addr} {ws : List V} {vs : List (Str × V)} {xs : List Dt} {fs : List (Str × Fv)} : H b = some (.lst ws) → Reps K G ws xs → ObF K G H vs fs → ObF K G H ((f, .ref b) :: vs) ((f, .own b xs) :: fs)
theorem ObF.at {K : Fg} {G G' H H' : Hp} (g : Same G G') : ∀ {vs : List (Str × V)} {fs : List (Str × Fv)}, ObF K G H vs fs → (∀ b ∈ fps fs, H' b = H b) → ObF K G' H' vs fs
  | _, _, .nil, _ => .nil
  | _, _, .d a b, h => .d (a.mono g) (ObF.at g b h)
  | _, _, .own e a b, h => .own ((h _ (List.mem_cons_self ..)).trans e) (a.mono g) (ObF.at g b fun c hc => h c (List.mem_cons_of_mem _ hc))
theorem ObF.there {K : Fg} {G H : Hp} : ∀ {vs : List (Str × V)} {fs : List (Str × Fv)}, ObF K G H vs fs → ∀ b ∈ fps fs, ∃ o, H b = some o
  | _, _, .nil, _, h => by cases h
  | _, _, .d a b, c, h => ObF.there b c h
  | _, _, .own e a b, c, h => by
    cases h with
    | head => exact ⟨_, e⟩
    | tail _ h => exact ObF.there b c h
structure ObR (K : Fg) (G H : Hp) (C a : Addr) (fs : List (Str × Fv)) : Prop where
  ob : ∃ dx vs, H a = some (.ins C dx vs) ∧ ObF K G H vs fs
  nd : (a :: fps fs).Nodup
theorem ObR.at {K : Fg} {G G' H H' : Hp} {C a : Addr} {fs : List (Str × Fv)} (h : ObR K G H C a fs) (g : Same G G') (e : ∀ b ∈ a :: fps fs, H' b = H b) : ObR K G' H' C a fs := by
  obtain ⟨⟨dx, vs, h1, h2⟩, nd⟩ := h
  exact ⟨⟨dx, vs, (e _ (List.mem_cons_self ..)).trans h1, h2.at g fun b hb => e b (List.mem_cons_of_mem _ hb)⟩, nd⟩
theorem ObR.there {K : Fg} {G H : Hp} {C a : Addr} {fs : List (Str × Fv)} (h : ObR K G H C a fs) : ∀ b ∈ a :: fps fs, ∃ o, H b = some o := by
  obtain ⟨⟨dx, vs, h1, h2⟩, nd⟩ := h
  intro b hb
  cases hb with
  | head => exact ⟨_, h1⟩
  | tail _ hb => exact h2.there b hb
def SlotR (K : Fg) (r : Option Addr) (G H : Hp) (o : Option V) : PV → Prop
  | .un => True
  | .d x => ∃ v, o = some v ∧ Rep K G v x
  | .own x => ∃ a, o = some (.ref a) ∧ G a = none ∧ r ≠ some a ∧ OwnR K G H a x
  | .row => ∃ a, o = some (.ref a) ∧ r = some a
  | .scr ns => ∃ a, o = some (.ref a) ∧ SqL K G a (ns.map V.int)
  | .rng lo hi => ∃ a, o = some (.ref a) ∧ G a = some (.rng lo hi)
  | .ins C fs => ∃ a dx vs, o = some (.ref a) ∧ G a = some (.ins C dx vs) ∧ RepF K G vs fs
  | .obj C a fs => o = some (.ref a) ∧ ObR K G H C a fs ∧ ∀ b ∈ a :: fps fs, G b = none ∧ r ≠ some b
  | .fz p => ∃ v, o = some v ∧ ∀ G', Same G G' → p K G' v

structure EnvR (K : Fg) (r : Option Addr) (G H : Hp) (σ : L2.St) (ρ : List PV) : Prop where
  st : Start K r G H
  len : σ.length = ρ.length
  slot : ∀ (i : Nat) (p : PV), ρ[i]? = some p → ∃ o, σ[i]? = some o ∧ SlotR K r G H o p
  dist : ∀ (i j : Nat) (a : Addr) (x y : Dt), ρ[i]? = some (.own x) → ρ[j]? = some (.own y) → σ[i]? = some (some (.ref a)) → σ[j]? = some (some (.ref a)) → i = j
  apart : ∀ (i j : Nat) (C a : Addr) (fs : List (Str × Fv)), ρ[i]? = some (.obj C a fs) → ((∀ x, ρ[j]? = some (.own x) → ∀ b ∈ a :: fps fs, σ[j]? ≠ some (some (.ref b))) ∧ (∀ D c gs, ρ[j]? = some (.obj D c gs) → i ≠ j → ∀ b ∈ a :: fps fs, b ∉ c :: fps gs))
section
variable {K : Fg} {r : Option Addr} {G H G' H' : Hp} {σ : L2.St} {ρ : List PV}
theorem SlotR.grow {o : Option V} {p : PV} (W : Grow K r G H G' H') (h : SlotR K r G H o p) : SlotR K r G' H' o p := by
  cases p with
  | un => trivial
  | d x =>
    obtain ⟨v, e, q⟩ := h
    exact ⟨v, e, q.mono W.g⟩
  | own x =>
    obtain ⟨a, e, ga, ne, q⟩ := h
    obtain ⟨o, ho⟩ := q.some
    exact ⟨a, e, W.y _ _ ho ga, ne, q.at W.g ((W.h a o ne ho).trans ho.symm)⟩
  | row => exact h
  | scr ns =>
    obtain ⟨a, e, q⟩ := h
    exact ⟨a, e, W.g.seq q⟩
  | rng lo hi =>
    obtain ⟨a, e, q⟩ := h
    exact ⟨a, e, W.g _ _ q⟩
  | ins C fs =>
    obtain ⟨a, dx, vs, e, q, f⟩ := h
    exact ⟨a, dx, vs, e, W.g _ _ q, f.mono W.g⟩
  | obj C a fs =>
    obtain ⟨e, q, n⟩ := h
    refine ⟨e, q.at W.g fun b hb => ?_, fun b hb => ?_⟩
    · obtain ⟨o, ho⟩ := q.there b hb
      exact (W.h b o (n b hb).2 ho).trans ho.symm
    · obtain ⟨o, ho⟩ := q.there b hb
      exact ⟨W.y _ _ ho (n b hb).1, (n b hb).2⟩
  | fz p =>
    obtain ⟨v, e, q⟩ := h
    exact ⟨v, e, fun G2 g => q G2 (W.g.trans g)⟩
theorem EnvR.grow (E : EnvR K r G H σ ρ) (W : Grow K r G H G' H') : EnvR K r G' H' σ ρ :=
  ⟨W.start E.st, E.len, fun i p e => by
    obtain ⟨o, h1, h2⟩ := E.slot i p e
    exact ⟨o, h1, h2.grow W⟩, E.dist, E.apart⟩
/-- a store into a slot of what is not one's own keeps all that is one's own apart -/
theorem apart_set {σ : L2.St} {ρ : List PV} {i : Nat} {o : Option V} {p : PV} (h : ∀ (i j : Nat) (C a : Addr) (fs : List (Str × Fv)), ρ[i]? = some (.obj C a fs) → ((∀ x, ρ[j]? = some (.own x) → ∀ b ∈ a :: fps fs, σ[j]? ≠ some (some (.ref b))) ∧ (∀ D c gs, ρ[j]? = some (.obj D c gs) → i ≠ j → ∀ b ∈ a :: fps fs, b ∉ c :: fps gs)))
    (no : ∀ x, p ≠ .own x) (nb : ∀ C a fs, p ≠ .obj C a fs) : ∀ (k j : Nat) (C a : Addr) (fs : List (Str × Fv)), (ρ.set i p)[k]? = some (.obj C a fs) → ((∀ x, (ρ.set i p)[j]? = some (.own x) → ∀ b ∈ a :: fps fs, (σ.set i o)[j]? ≠ some (some (.ref b))) ∧ (∀ D c gs, (ρ.set i p)[j]? = some (.obj D c gs) → k ≠ j → ∀ b ∈ a :: fps fs, b ∉ c :: fps gs)) := by
  intro k j C a fs e
  have fall : ∀ {m : Nat} {q : PV}, (ρ.set i p)[m]? = some q → q ≠ p → m ≠ i ∧ ρ[m]? = some q := fun {m q} e n => by
    by_cases hm : m = i
    · subst hm
      rw [List.getElem?_set] at e
      simp only [if_true] at e
      split at e
      · cases e; exact absurd rfl n
      · cases e
    · rw [List.getElem?_set_ne (Ne.symm hm)] at e
      exact ⟨hm, e⟩
  obtain ⟨k1, k2⟩ := fall e fun z => nb C a fs z.symm
  refine ⟨fun x ex b hb => ?_, fun D c gs eg nk => ?_⟩
  · obtain ⟨j1, j2⟩ := fall ex fun z => no x z.symm
    rw [List.getElem?_set_ne (Ne.symm j1)]
    exact (h k j C a fs k2).1 x j2 b hb
  · obtain ⟨j1, j2⟩ := fall eg fun z => nb D c gs z.symm
    exact (h k j C a fs k2).2 D c gs j2 nk
theorem EnvR.set (E : EnvR K r G H σ ρ) {i : Nat} {v : V} {x : Dt} (h : Rep K G v x) : EnvR K r G H (σ.set i (some v)) (ρ.set i (.d x)) := by
  refine ⟨E.st, by simp [E.len], fun j p e => ?_, fun j k a x' y' e1 e2 e3 e4 => ?_, apart_set E.apart (fun _ => by simp) (fun _ _ _ => by simp)⟩
  · by_cases hj : j = i
    · subst hj
      have hl : j < ρ.length := by
        have := (List.getElem?_eq_some_iff.mp e).1
        simpa using this
      rw [List.getElem?_set_self hl] at e
      cases e
      exact ⟨some v, List.getElem?_set_self (by rw [E.len]; exact hl), v, rfl, h⟩
    · rw [List.getElem?_set_ne (Ne.symm hj)] at e ⊢
      exact E.slot j p e
  · by_cases hj : j = i
    · subst hj
      rw [List.getElem?_set] at e1
      split at e1
      · split at e1 <;> cases e1
      · contradiction
    · by_cases hk : k = i
      · subst hk
        rw [List.getElem?_set] at e2
        split at e2
        · split at e2 <;> cases e2
        · contradiction
      · rw [List.getElem?_set_ne (Ne.symm hj)] at e1 e3
        rw [List.getElem?_set_ne (Ne.symm hk)] at e2 e4
        exact E.dist j k a x' y' e1 e2 e3 e4
theorem EnvR.get (E : EnvR K r G H σ ρ) {i : Nat} {x : Dt} (e : ρ[i]? = some (.d x)) : ∃ v, σ[i]? = some (some v) ∧ Rep K G v x := by
  obtain ⟨o, h1, v, rfl, h⟩ := E.slot i _ e
  exact ⟨v, h1, h⟩
theorem EnvR.getO (E : EnvR K r G H σ ρ) {i : Nat} {x : Dt} (e : ρ[i]? = some (.own x)) : ∃ a, σ[i]? = some (some (.ref a)) ∧ G a = none ∧ r ≠ some a ∧ OwnR K G H a x := by
  obtain ⟨o, h1, a, rfl, h⟩ := E.slot i _ e
  exact ⟨a, h1, h⟩
end

/-! ### readings of data -/
abbrev PT0 := List PV → (Dt → Prop) → Prop
abbrev PTT := List PV → (Bool → Prop) → Prop
abbrev PTA := List PV → (List Dt → Prop) → Prop
def liftE (K : Fg) (t : PT0) : TE := fun σ H Q => ∃ (r : Option Addr) (G : Hp) (ρ : List PV) (P : Dt → Prop), EnvR K r G H σ ρ ∧ t ρ P ∧ ∀ v d G' H', P d → Grow K r G H G' H' → Rep K G' v d → Q v H'
def liftT (K : Fg) (t : PTT) : TT := fun σ H Q => ∃ (r : Option Addr) (G : Hp) (ρ : List PV) (P : Bool → Prop), EnvR K r G H σ ρ ∧ t ρ P ∧ ∀ b G' H', P b → Grow K r G H G' H' → Q b H'
def liftA (K : Fg) (t : PTA) : TA := fun σ H Q => ∃ (r : Option Addr) (G : Hp) (ρ : List PV) (P : List Dt → Prop), EnvR K r G H σ ρ ∧ t ρ P ∧ ∀ vs ds G' H', P ds → Grow K r G H G' H' → Reps K G' vs ds → Q vs H'
def DE (X : Cx) (e : Expr) (t : PT0) : Prop := PE X e (liftE X.K t)
def DT (X : Cx) (e : Expr) (t : PTT) : Prop := PT X e (liftT X.K t)
def DA (X : Cx) (es : List Expr) (t : PTA) : Prop := PA X es (liftA X.K t)
theorem PE.weak {X : Cx} {e : Expr} {t u : TE} (h : PE X e t) (w : ∀ σ H Q, u σ H Q → t σ H Q) : PE X e u := ⟨fun pins s σ H Q I q => h.run pins s σ H Q I (w σ H Q q)⟩
theorem PT.weak {X : Cx} {e : Expr} {t u : TT} (h : PT X e t) (w : ∀ σ H Q, u σ H Q → t σ H Q) : PT X e u := ⟨fun pins s σ H Q I q => h.run pins s σ H Q I (w σ H Q q)⟩
theorem PA.weak {X : Cx} {e : List Expr} {t u : TA} (h : PA X e t) (w : ∀ σ H Q, u σ H Q → t σ H Q) : PA X e u := ⟨fun ps pins s σ H Q I q => h.run ps pins s σ H Q I (w σ H Q q)⟩
theorem PS.weak {X : Cx} {e : Stmt} {t u : TS} (h : PS X e t) (w : ∀ Dn σ H, u Dn σ H → t Dn σ H) : PS X e u := ⟨fun pins s σ H Dn I q => h.run pins s σ H Dn I (w Dn σ H q)⟩
theorem PSs.weak {X : Cx} {e : List Stmt} {t u : TS} (h : PSs X e t) (w : ∀ Dn σ H, u Dn σ H → t Dn σ H) : PSs X e u := ⟨fun pins s σ H Dn I q => h.run pins s σ H Dn I (w Dn σ H q)⟩

section
variable {X : Cx} {pos : Pos} {a b : Expr} {ta tb : PT0}
/-- a name that holds data -/
def dVar (i : Nat) : PT0 := fun ρ P => ∃ x, ρ[i]? = some (.d x) ∧ P x
theorem de_var (i : Nat) {x : Str} (hN : X.N[i]? = some x := by rfl) (hv : Vis X.env.scope x := by first | exact Or.inl rfl | exact Or.inr (Or.inl rfl) | exact Or.inr (Or.inr rfl)) (hd : (x == ("__debug__" : Str)) = false := by decide)
    (hcd : (x == ("__classdict__" : Str)) = false := by decide) : DE X (.Name x pos) (dVar i) := PE.weak (pe_var hN hv hd hcd) fun σ H Q ⟨r, G, ρ, P, E, ⟨x, e, p⟩, q⟩ => by
  obtain ⟨v, h1, h2⟩ := E.get e
  exact ⟨v, h1, q v x G H p E.st.grow h2⟩
def dC (d : Dt) : PT0 := fun _ P => P d
theorem de_int {i : Int} {j} : DE X (.Constant (.int i) j pos) (dC (.int i)) := PE.weak pe_int fun σ H Q ⟨r, G, ρ, P, E, p, q⟩ => q _ _ G H p E.st.grow (.int i)
theorem de_bl {i : Bool} {j} : DE X (.Constant (.bool i) j pos) (dC (.bool i)) := PE.weak pe_bl fun σ H Q ⟨r, G, ρ, P, E, p, q⟩ => q _ _ G H p E.st.grow (.bl i)
theorem de_str {i : Str} {j} : DE X (.Constant (.str i) j pos) (dC (.str i)) := PE.weak pe_str fun σ H Q ⟨r, G, ρ, P, E, p, q⟩ => q _ _ G H p E.st.grow (.str i)
theorem de_non {j} : DE X (.Constant .none j pos) (dC .none) := PE.weak pe_non fun σ H Q ⟨r, G, ρ, P, E, p, q⟩ => q _ _ G H p E.st.grow .non
end
end PD
namespace PD
open PySem PySem.Spec PyProof.Rows L2

/-! ### what a state tells of a datum's size -/
def Top : Dt → Prop
  | .list xs => xs.length ≤ sizeLine
  | .tuple xs => xs.length ≤ sizeLine
  | .dict xs => xs.length ≤ sizeLine + 1
  | _ => True
theorem top_of {X : Cx} {pins : List (Addr × Obj)} {σ : L2.St} {G H : Hp} {s : Shared} (I : Inv X pins σ H s) (g : Same G H) {v : V} {d : Dt} (r : Rep X.K G v d) : Top d := by
  cases r with
  | non => trivial
  | bl => trivial
  | int => trivial
  | str => trivial
  | lst e r =>
    obtain ⟨_, _, _, z⟩ := I.list (SqL.of (g _ _ e))
    show _ ≤ sizeLine
    rw [← r.length]
    exact z
  | tup e r =>
    obtain ⟨_, _, _, z⟩ := I.tuple (same_seqP g e)
    show _ ≤ sizeLine
    rw [← r.length]
    exact z
  | dic e r =>
    have z := (dk_rd I.hok (.inr ⟨_, g _ _ e⟩)).1
    show _ ≤ sizeLine + 1
    rw [← r.length]
    exact Nat.le_succ_of_le z
  | dicT e r =>
    have z := (dt_rd I.hok (.inr ⟨_, g _ _ e⟩)).1
    show _ ≤ sizeLine + 1
    rw [List.length_cons, List.length_map, ← r.length]
    exact Nat.succ_le_succ z
/-- the size of what comes is known -/
theorem de_top {X : Cx} {e : Expr} {t : PT0} (h : DE X e t) : DE X e (fun ρ P => t ρ fun d => Top d → P d) := by
  refine ⟨fun pins s σ H Q I ⟨r, G, ρ, P, E, p, q⟩ => ?_⟩
  refine thn (h.run pins s σ H (fun v H' => ∃ d G', (Top d → P d) ∧ Grow X.K r G H G' H' ∧ Rep X.K G' v d) I ⟨r, G, ρ, _, E, p, fun v d G' H' p' W R => ⟨d, G', p', W, R⟩⟩) fun u s' ⟨v, H', I', rv, d, G', p', W, R⟩ => ?_
  exact ⟨v, H', I', rv, q v d G' H' (p' (top_of I' W.gh R)) W R⟩

/-! ### operators by what their values say -/
abbrev F1 := Dt → (Dt → Prop) → Prop
abbrev F2 := Dt → Dt → (Dt → Prop) → Prop
def liftO (K : Fg) (f : F2) : R2 := fun x y H Q => ∃ (r : Option Addr) (G : Hp) (d e : Dt) (P : Dt → Prop), Start K r G H ∧ Rep K G x d ∧ Rep K G y e ∧ f d e P ∧ ∀ v z G' H', P z → Grow K r G H G' H' → Rep K G' v z → Q v H'
def liftU (K : Fg) (f : F1) : V → Hp → VK → Prop := fun x H Q => ∃ (r : Option Addr) (G : Hp) (d : Dt) (P : Dt → Prop), Start K r G H ∧ Rep K G x d ∧ f d P ∧ ∀ v z G' H', P z → Grow K r G H G' H' → Rep K G' v z → Q v H'
def DO (X : Cx) (f : Value → Value → Sem Value) (r : F2) : Prop := OpR X f (liftO X.K r)
def dBin (f : F2) (ta tb : PT0) : PT0 := fun ρ P => ta ρ fun x => tb ρ fun y => f x y P
def dUn (f : F1) (ta : PT0) : PT0 := fun ρ P => ta ρ fun x => f x P
section
variable {X : Cx} {pos : Pos} {a b c : Expr} {ta tb tc : PT0} {f f' : F2}
theorem lift_bin {σ : L2.St} {H : Hp} {Q : VK} (h : liftE X.K (dBin f ta tb) σ H Q) : tOp (liftO X.K f) (liftE X.K ta) (liftE X.K tb) σ H Q := by
  obtain ⟨r, G, ρ, P, E, p, q⟩ := h
  exact ⟨r, G, ρ, _, E, p, fun v x G1 H1 p1 W1 R1 => ⟨r, G1, ρ, _, E.grow W1, p1, fun u y G2 H2 p2 W2 R2 => ⟨r, G2, x, y, P, W2.start (W1.start E.st), R1.mono W2.g, R2, p2, fun w z G3 H3 p3 W3 R3 => q w z G3 H3 p3 ((W1.trans W2).trans W3) R3⟩⟩⟩
theorem de_op {op : Operator} (ho : DO X (binaryOp op) f) (ha : DE X a ta) (hb : DE X b tb) : DE X (.BinOp a op b pos) (dBin f ta tb) := PE.weak (pe_op ho ha hb) fun σ H Q h => lift_bin h
theorem de_cmp {op : CmpOp} (ho : DO X (compareOp op) f) (ha : DE X a ta) (hb : DE X b tb) (hm : behindInMarks op b = false := by first | exact nomark _ | rfl) : DE X (.Compare a [op] [b] pos) (dBin f ta tb) := PE.weak (pe_cmpR ho ha hb hm) fun σ H Q h => lift_bin h
/-- a value that is a bool, as a test -/
def dTest (t : PT0) : PTT := fun ρ P => t ρ fun x => ∃ k, x = .bool k ∧ P k
theorem lift_test {σ : L2.St} {H : Hp} {Q : Bool → Hp → Prop} {t : PT0} (h : liftT X.K (dTest t) σ H Q) : liftE X.K t σ H fun x H' => ∃ k, x = .bl k ∧ Q k H' := by
  obtain ⟨r, G, ρ, P, E, p, q⟩ := h
  refine ⟨r, G, ρ, _, E, p, fun v x G1 H1 ⟨k, e, p1⟩ W1 R1 => ?_⟩
  subst e
  cases R1
  exact ⟨k, rfl, q k G1 H1 p1 W1⟩
theorem dt_cmp {op : CmpOp} (ho : DO X (compareOp op) f) (ha : DE X a ta) (hb : DE X b tb) (hm : behindInMarks op b = false := by first | exact nomark _ | rfl) : DT X (.Compare a [op] [b] pos) (dTest (dBin f ta tb)) :=
  PT.weak (pt_cmpR ho ha hb hm) fun σ H Q h => by
    obtain ⟨r, G, ρ, P, E, p, q⟩ := lift_test h
    exact lift_bin ⟨r, G, ρ, P, E, p, q⟩
/-- a op1 b op2 c -/
def dChain (f f' : F2) (ta tb tc : PT0) : PT0 := fun ρ P => ta ρ fun x => tb ρ fun y => f x y fun z => ∃ k, z = .bool k ∧ if k = true then tc ρ fun w => f' y w P else P (.bool false)
theorem lift_chain {σ : L2.St} {H : Hp} {Q : VK} (h : liftE X.K (dChain f f' ta tb tc) σ H Q) : tChain (liftO X.K f) (liftO X.K f') (liftE X.K ta) (liftE X.K tb) (liftE X.K tc) σ H Q := by
  obtain ⟨r, G, ρ, P, E, p, q⟩ := h
  refine ⟨r, G, ρ, _, E, p, fun v x G1 H1 p1 W1 R1 => ⟨r, G1, ρ, _, E.grow W1, p1, fun u y G2 H2 p2 W2 R2 => ⟨r, G2, x, y, _, W2.start (W1.start E.st), R1.mono W2.g, R2, p2, fun w z G3 H3 p3 W3 R3 => ?_⟩⟩⟩
  obtain ⟨k, e, p3⟩ := p3
  subst e
  cases R3
  have W := (W1.trans W2).trans W3
  refine ⟨k, rfl, ?_⟩
  cases k with
  | false => exact q _ _ G3 H3 p3 W (.bl false)
  | true =>
    rw [if_pos rfl] at p3 ⊢
    exact ⟨r, G3, ρ, _, E.grow W, p3, fun w z G4 H4 p4 W4 R4 => ⟨r, G4, y, z, P, W4.start (W.start E.st), R2.mono (W3.g.trans W4.g), R4, p4, fun w z G5 H5 p5 W5 R5 => q w z G5 H5 p5 ((W.trans W4).trans W5) R5⟩⟩
theorem de_chain {op op' : CmpOp} (ho : DO X (compareOp op) f) (ho' : DO X (compareOp op') f') (ha : DE X a ta) (hb : DE X b tb) (hc : DE X c tc)
    (hm : lastMarks [op, op'] [b, c] = false := by with_unfolding_all rfl) : DE X (.Compare a [op, op'] [b, c] pos) (dChain f f' ta tb tc) := PE.weak (pe_chain ho ho' ha hb hc hm) fun σ H Q h => lift_chain h
theorem dt_chain {op op' : CmpOp} (ho : DO X (compareOp op) f) (ho' : DO X (compareOp op') f') (ha : DE X a ta) (hb : DE X b tb) (hc : DE X c tc)
    (hm : lastMarks [op, op'] [b, c] = false := by with_unfolding_all rfl) : DT X (.Compare a [op, op'] [b, c] pos) (dTest (dChain f f' ta tb tc)) :=
  PT.weak (pt_chain ho ho' ha hb hc hm) fun σ H Q h => by
    obtain ⟨r, G, ρ, P, E, p, q⟩ := lift_test h
    exact lift_chain ⟨r, G, ρ, P, E, p, q⟩
/-- an expression whose value is a bool, as a test -/
theorem dt_val {t : PT0} (h : DE X a t) (he : ∀ whole, isTrue a X.env whole = (do let v ← whole; standAt a.pos; holding [v] (truthy v)) := by intro _; rfl) : DT X a (dTest t) := PT.weak (pt_val h he) fun σ H Q h => lift_test h
/-! ### and, or, not, if -/
variable {tA tB : PTT} {rest : List Expr}
def DW (X : Cx) (e : Expr) (t : PTT) : Prop := PW X e (liftT X.K t)
def dAnd (t u : PTT) : PTT := fun ρ P => t ρ fun k => if k = true then u ρ P else P false
def dOr (t u : PTT) : PTT := fun ρ P => t ρ fun k => if k = true then P true else u ρ P
def dNot (t : PTT) : PTT := fun ρ P => t ρ fun k => P (!k)
theorem PW.weak {X : Cx} {e : Expr} {t u : TT} (h : PW X e t) (w : ∀ σ H Q, u σ H Q → t σ H Q) : PW X e u := ⟨fun wh pins s σ H Q I q => h.run wh pins s σ H Q I (w σ H Q q)⟩
theorem dw_and1 (h : DT X a tA) : DW X (.BoolOp .And [a] pos) tA := pw_and1 h
theorem dw_or1 (h : DT X a tA) : DW X (.BoolOp .Or [a] pos) tA := pw_or1 h
theorem dw_and (ha : DT X a tA) (hb : DW X (.BoolOp .And (b :: rest) pos) tB) : DW X (.BoolOp .And (a :: b :: rest) pos) (dAnd tA tB) := PW.weak (pw_and ha hb) fun σ H Q ⟨r, G, ρ, P, E, p, q⟩ =>
  ⟨r, G, ρ, _, E, p, fun k G1 H1 p1 W1 => by
    cases k with
    | false => exact q _ _ _ p1 W1
    | true => exact ⟨r, G1, ρ, P, E.grow W1, p1, fun k G2 H2 p2 W2 => q k G2 H2 p2 (W1.trans W2)⟩⟩
theorem dw_or (ha : DT X a tA) (hb : DW X (.BoolOp .Or (b :: rest) pos) tB) : DW X (.BoolOp .Or (a :: b :: rest) pos) (dOr tA tB) := PW.weak (pw_or ha hb) fun σ H Q ⟨r, G, ρ, P, E, p, q⟩ =>
  ⟨r, G, ρ, _, E, p, fun k G1 H1 p1 W1 => by
    cases k with
    | true => exact q _ _ _ p1 W1
    | false => exact ⟨r, G1, ρ, P, E.grow W1, p1, fun k G2 H2 p2 W2 => q k G2 H2 p2 (W1.trans W2)⟩⟩
theorem dw_pt (h : DW X a tA) : DT X a tA := PW.pt h
theorem dt_not (h : DT X a tA) : DT X (.UnaryOp .Not a pos) (dNot tA) := PT.weak (pt_not h) fun σ H Q ⟨r, G, ρ, P, E, p, q⟩ => ⟨r, G, ρ, _, E, p, fun k G1 H1 p1 W1 => q _ _ _ p1 W1⟩
/-- as values (bools) -/
def dAndV (ta tb : PT0) : PT0 := fun ρ P => ta ρ fun x => ∃ k, x = .bool k ∧ if k = true then tb ρ P else P (.bool false)
def dOrV (ta tb : PT0) : PT0 := fun ρ P => ta ρ fun x => ∃ k, x = .bool k ∧ if k = true then P (.bool true) else tb ρ P
def dNotV (ta : PT0) : PT0 := fun ρ P => ta ρ fun x => ∃ k, x = .bool k ∧ P (.bool (!k))
theorem de_one {op} (h : DE X a ta) : DE X (.BoolOp op [a] pos) ta := pe_one h
theorem de_and (ha : DE X a ta) (hb : DE X (.BoolOp .And (b :: rest) pos) tb) : DE X (.BoolOp .And (a :: b :: rest) pos) (dAndV ta tb) := PE.weak (pe_and ha hb) fun σ H Q ⟨r, G, ρ, P, E, p, q⟩ =>
  ⟨r, G, ρ, _, E, p, fun v x G1 H1 ⟨k, e, p1⟩ W1 R1 => by
    subst e
    cases R1
    refine ⟨k, rfl, ?_⟩
    cases k with
    | false => exact q _ _ _ _ p1 W1 (.bl false)
    | true => exact ⟨r, G1, ρ, P, E.grow W1, p1, fun k x G2 H2 p2 W2 R2 => q k x G2 H2 p2 (W1.trans W2) R2⟩⟩
theorem de_or (ha : DE X a ta) (hb : DE X (.BoolOp .Or (b :: rest) pos) tb) : DE X (.BoolOp .Or (a :: b :: rest) pos) (dOrV ta tb) := PE.weak (pe_or ha hb) fun σ H Q ⟨r, G, ρ, P, E, p, q⟩ =>
  ⟨r, G, ρ, _, E, p, fun v x G1 H1 ⟨k, e, p1⟩ W1 R1 => by
    subst e
    cases R1
    refine ⟨k, rfl, ?_⟩
    cases k with
    | true => exact q _ _ _ _ p1 W1 (.bl true)
    | false => exact ⟨r, G1, ρ, P, E.grow W1, p1, fun k x G2 H2 p2 W2 R2 => q k x G2 H2 p2 (W1.trans W2) R2⟩⟩
theorem de_not (ha : DE X a ta) : DE X (.UnaryOp .Not a pos) (dNotV ta) := PE.weak (pe_not ha) fun σ H Q ⟨r, G, ρ, P, E, p, q⟩ =>
  ⟨r, G, ρ, _, E, p, fun v x G1 H1 ⟨k, e, p1⟩ W1 R1 => by
    subst e
    cases R1
    exact ⟨k, rfl, q _ _ _ _ p1 W1 (.bl _)⟩⟩
/-- not of a test, as a value -/
def dIf (t : PTT) (ta tb : PT0) : PT0 := fun ρ P => t ρ fun k => if k = true then ta ρ P else tb ρ P
theorem de_if (hc : DT X c tA) (ha : DE X a ta) (hb : DE X b tb) : DE X (.IfExp c a b pos) (dIf tA ta tb) := PE.weak (pe_ifExp hc ha hb) fun σ H Q ⟨r, G, ρ, P, E, p, q⟩ =>
  ⟨r, G, ρ, _, E, p, fun k G1 H1 p1 W1 => by
    cases k with
    | true => exact ⟨r, G1, ρ, P, E.grow W1, p1, fun k x G2 H2 p2 W2 R2 => q k x G2 H2 p2 (W1.trans W2) R2⟩
    | false => exact ⟨r, G1, ρ, P, E.grow W1, p1, fun k x G2 H2 p2 W2 R2 => q k x G2 H2 p2 (W1.trans W2) R2⟩⟩

/-! ### the operators -/
def fAdd : F2 := fun x y P => match x, y with
  | .int i, .int j => P (.int (i + j))
  | .str i, .str j => i.length + j.length ≤ sizeLine ∧ P (.str (i ++ j))
  | .list i, .list j => i.length + j.length ≤ sizeLine ∧ P (.list (i ++ j))
  | .tuple i, .tuple j => i.length + j.length ≤ sizeLine ∧ P (.tuple (i ++ j))
  | _, _ => False
theorem Reps.nil_iff {K : Fg} {G : Hp} {xs : List V} {ds : List Dt} (r : Reps K G xs ds) : xs = [] ↔ ds = [] := by
  cases r <;> simp
theorem do_add : DO X (binaryOp .Add) fAdd := by
  intro pins s σ H x y v u Q I rx ry ⟨r, G, d, e, P, S, hd, he, p, q⟩
  cases d <;> cases e <;> try exact p.elim
  · cases hd; cases he
    exact op_add pins s σ H _ _ v u Q I rx ry ⟨_, _, rfl, rfl, q _ _ G H p S.grow (.int _)⟩
  · cases hd; cases he
    exact op_add_str pins s σ H _ _ v u Q I rx ry ⟨_, _, rfl, rfl, p.1, q _ _ G H p.2 S.grow (.str _)⟩
  · cases hd with
    | lst e1 r1 =>
      cases he with
      | lst e2 r2 =>
        refine op_cat pins s σ H _ _ v u Q I rx ry ⟨_, _, _, _, rfl, rfl, S.gh _ _ e1, S.gh _ _ e2, by rw [r1.length, r2.length]; exact p.1, fun c hc => ?_⟩
        refine q _ _ _ _ p.2 (S.lay hc) ?_
        exact (.lst upd_same ((r1.append r2).mono (S.lay hc).g))
  · cases hd with
    | tup e1 r1 =>
      cases he with
      | tup e2 r2 =>
        refine op_catA pins s σ H _ _ v u Q I rx ry ⟨_, _, _, _, rfl, rfl, same_seqP S.gh e1, same_seqP S.gh e2, by rw [r1.length, r2.length]; exact p.1, fun z => ?_, fun z1 z2 => ?_, fun _ _ c hc => ?_⟩
        · subst z
          cases r1
          exact q _ _ G H p.2 S.grow (.tup e2 r2)
        · subst z2
          cases r2
          refine q _ _ G H p.2 S.grow ?_
          rw [List.append_nil]
          exact .tup e1 r1
        · refine q _ _ _ _ p.2 (S.lay hc) ?_
          exact (.tup upd_same ((r1.append r2).mono (S.lay hc).g))
def fInt (C : Int → Int → Prop) (g : Int → Int → Dt) : F2 := fun x y P => match x, y with
  | .int i, .int j => C i j ∧ P (g i j)
  | _, _ => False
theorem do_int {h : Value → Value → Sem Value} {C : Int → Int → Prop} {g : Int → Int → Dt} {gv : Int → Int → V} (ho : OpR X h (rI C gv)) (hg : ∀ i j G, Rep X.K G (gv i j) (g i j)) : DO X h (fInt C g) := by
  intro pins s σ H x y v u Q I rx ry ⟨r, G, d, e, P, S, hd, he, p, q⟩
  cases d <;> cases e <;> try exact p.elim
  cases hd; cases he
  exact ho pins s σ H _ _ v u Q I rx ry ⟨_, _, rfl, rfl, p.1, q _ _ G H p.2 S.grow (hg _ _ _)⟩
def fIn0 (g : Int → Int → Dt) : F2 := fun x y P => match x, y with
  | .int i, .int j => P (g i j)
  | _, _ => False
theorem do_in0 {h : Value → Value → Sem Value} {g : Int → Int → Dt} {gv : Int → Int → V} (ho : OpR X h (rI0 gv)) (hg : ∀ i j G, Rep X.K G (gv i j) (g i j)) : DO X h (fIn0 g) := by
  intro pins s σ H x y v u Q I rx ry ⟨r, G, d, e, P, S, hd, he, p, q⟩
  cases d <;> cases e <;> try exact p.elim
  cases hd; cases he
  exact ho pins s σ H _ _ v u Q I rx ry ⟨_, _, rfl, rfl, q _ _ G H p S.grow (hg _ _ _)⟩
abbrev fSub : F2 := fIn0 fun i j => .int (i - j)
theorem do_sub : DO X (binaryOp .Sub) fSub := do_in0 op_sub fun _ _ _ => .int _
def fMul : F2 := fun x y P => match x, y with
  | .int i, .int j => CMul i j ∧ P (.int (i * j))
  | .list i, .int j => -(2 ^ 63) ≤ j ∧ j < 2 ^ 63 ∧ i.length * j.toNat ≤ sizeLine ∧ P (.list (List.replicate j.toNat i).flatten)
  | .tuple i, .int j => i ≠ [] ∧ 2 ≤ j ∧ j ≤ 1000 ∧ i.length ≤ 1000 ∧ P (.tuple (List.replicate j.toNat i).flatten)
  | _, _ => False
theorem do_mul : DO X (binaryOp .Mult) fMul := by
  intro pins s σ H x y v u Q I rx ry ⟨r, G, d, e, P, S, hd, he, p, q⟩
  cases d <;> cases e <;> try exact p.elim
  · cases hd; cases he
    exact op_mul pins s σ H _ _ v u Q I rx ry ⟨_, _, rfl, rfl, p.1, q _ _ G H p.2 S.grow (.int _)⟩
  · cases hd with
    | lst e1 r1 =>
      cases he
      refine op_rep pins s σ H _ _ v u Q I rx ry ⟨_, _, _, rfl, rfl, S.gh _ _ e1, p.1, p.2.1, by rw [r1.length]; exact p.2.2.1, fun c hc => ?_⟩
      refine q _ _ _ _ p.2.2.2 (S.lay hc) ?_
      exact (.lst upd_same ((r1.rep _).mono (S.lay hc).g))
  · cases hd with
    | tup e1 r1 =>
      cases he
      refine op_repT pins s σ H _ _ v u Q I rx ry ⟨_, _, _, rfl, rfl, same_seqP S.gh e1, fun z => p.1 (r1.nil_iff.mp z), p.2.1, p.2.2.1, by rw [r1.length]; exact p.2.2.2.1, fun c hc => ?_⟩
      refine q _ _ _ _ p.2.2.2.2 (S.lay hc) ?_
      exact (.tup upd_same ((r1.rep _).mono (S.lay hc).g))
abbrev fFdiv : F2 := fInt CDiv fun i j => .int (i / j)
theorem do_fdiv : DO X (binaryOp .FloorDiv) fFdiv := do_int op_fdiv fun _ _ _ => .int _
abbrev fMod : F2 := fInt (fun _ j => 0 < j) fun i j => .int (i % j)
theorem do_mod : DO X (binaryOp .Mod) fMod := do_int op_mod fun _ _ _ => .int _
abbrev fPow : F2 := fInt CPow fun i j => .int (i ^ j.toNat)
theorem do_pow : DO X (binaryOp .Pow) fPow := do_int op_pow fun _ _ _ => .int _
/-- an order of ints or texts -/
def fOrd (g : Int → Int → Bool) (h : List Nat → List Nat → Bool) : F2 := fun x y P => match x, y with
  | .int i, .int j => P (.bool (g i j))
  | .str i, .str j => P (.bool (h i.cps.toList j.cps.toList))
  | _, _ => False
theorem do_ord {k : Value → Value → Sem Value} {g : Int → Int → Bool} {h : List Nat → List Nat → Bool} (h1 : OpR X k (rI0 fun i j => .bl (g i j)))
    (h2 : OpR X k (fun x y H Q => ∃ i j, x = .str i ∧ y = .str j ∧ Q (.bl (h i.cps.toList j.cps.toList)) H)) : DO X k (fOrd g h) := by
  intro pins s σ H x y v u Q I rx ry ⟨r, G, d, e, P, S, hd, he, p, q⟩
  cases d <;> cases e <;> try exact p.elim
  · cases hd; cases he
    exact h1 pins s σ H _ _ v u Q I rx ry ⟨_, _, rfl, rfl, q _ _ G H p S.grow (.bl _)⟩
  · cases hd; cases he
    exact h2 pins s σ H _ _ v u Q I rx ry ⟨_, _, rfl, rfl, q _ _ G H p S.grow (.bl _)⟩
abbrev fLt : F2 := fOrd (fun i j => decide (i < j)) fun i j => decide (i < j)
abbrev fLe : F2 := fOrd (fun i j => decide (i ≤ j)) fun i j => !decide (j < i)
abbrev fGt : F2 := fOrd (fun i j => decide (j < i)) fun i j => decide (j < i)
abbrev fGe : F2 := fOrd (fun i j => decide (j ≤ i)) fun i j => !decide (i < j)
theorem do_lt : DO X (compareOp .Lt) fLt := do_ord op_lt op_lt_str
theorem do_le : DO X (compareOp .LtE) fLe := do_ord op_le op_le_str
theorem do_gt : DO X (compareOp .Gt) fGt := do_ord op_gt op_gt_str
theorem do_ge : DO X (compareOp .GtE) fGe := do_ord op_ge op_ge_str
/-! equality -/
mutual
def noDic : Dt → Bool
  | .dict _ => false
  | .list xs => noDics xs
  | .tuple xs => noDics xs
  | _ => true
def noDics : List Dt → Bool
  | [] => true
  | x :: xs => noDic x && noDics xs
end
mutual
theorem dp_of {K : Fg} {G H : Hp} (g : Same G H) : ∀ (d : Dt) (v : V), Rep K G v d → SeqAt.shaped d = true ∨ d.canLay0 = true → Dp K H v d
  | .none, _, h, _ => by cases h; exact .non
  | .bool _, _, h, _ => by cases h; exact .bl _
  | .int _, _, h, _ => by cases h; exact .int _
  | .str _, _, h, _ => by cases h; exact .str _
  | .list ds, _, h, n => by
    cases h with
    | lst e r => exact .lst (SqL.of (g _ _ e)) (dps_of g ds _ r (n.elim (fun z => by simpa [PyData.canLay0] using SeqAt.canLay_of_shaped z) fun z => by simpa [PyData.canLay0] using z))
  | .tuple ds, _, h, n => by
    cases h with
    | tup e r => exact .tup (same_seqP g e) (dps_of g ds _ r (n.elim (fun z => by simpa [PyData.canLay0] using SeqAt.canLay_of_shaped z) fun z => by simpa [PyData.canLay0] using z))
  | .dict _, _, _, n => by
    rcases n with n | n
    · have := SeqAt.canLay_of_shaped n
      simp [PyData.canLay0] at this
    · simp [PyData.canLay0] at n
theorem dps_of {K : Fg} {G H : Hp} (g : Same G H) : ∀ (ds : List Dt) (vs : List V), Reps K G vs ds → PyData.canLayAll0 ds = true → DpAll K H vs ds
  | [], _, h, _ => by cases h; exact .nil
  | d :: ds, _, h, n => by
    cases h with
    | cons a b =>
      have n' : d.canLay0 = true ∧ PyData.canLayAll0 ds = true := by simpa [PyData.canLayAll0] using n
      exact .cons (dp_of g d _ a (.inr n'.1)) (dps_of g ds _ b n'.2)
end
def eqOk (x y : Dt) : Bool := match x, y with
  | .str _, .str _ => true
  | .str _, .none => true
  | .none, .str _ => true
  | _, _ => SeqAt.shaped x && SeqAt.shaped y
def fEq : F2 := fun x y P => eqOk x y = true ∧ P (.bool (PyData.eqv x y))
def fNe : F2 := fun x y P => eqOk x y = true ∧ P (.bool (!PyData.eqv x y))
theorem eqOk_shaped {x y : Dt} (h : eqOk x y = true) : ((∃ a b, x = .str a ∧ y = .str b) ∨ (∃ a, x = .str a ∧ y = .none) ∨ (∃ b, x = .none ∧ y = .str b)) ∨ (SeqAt.shaped x = true ∧ SeqAt.shaped y = true) := by
  cases x <;> cases y <;> simp_all [eqOk]
theorem do_eq (hu : X.A.units + 64 < cLine) : DO X (compareOp .Eq) fEq := by
  intro pins s σ H x y v u Q I rx ry ⟨r, G, d, e, P, S, hd, he, p, q⟩
  rcases eqOk_shaped p.1 with (⟨a, b, rfl, rfl⟩ | ⟨a, rfl, rfl⟩ | ⟨a, rfl, rfl⟩) | ⟨s1, s2⟩
  · cases hd; cases he
    refine op_eq pins s σ H _ _ v u Q I rx ry ⟨rfl, q _ _ G H p.2 S.grow ?_⟩
    rw [show PyData.eqv (.str a) (.str b) = decide (V.str a = V.str b) by rw [PyData.eqv, dec_str]]
    exact .bl _
  · cases hd; cases he
    refine op_eq pins s σ H _ _ v u Q I rx ry ⟨rfl, q _ _ G H p.2 S.grow ?_⟩
    rw [show PyData.eqv (.str a) .none = decide (V.str a = V.non) by simp [PyData.eqv]]
    exact .bl _
  · cases hd; cases he
    refine op_eq pins s σ H _ _ v u Q I rx ry ⟨rfl, q _ _ G H p.2 S.grow ?_⟩
    rw [show PyData.eqv .none (.str a) = decide (V.non = V.str a) by simp [PyData.eqv]]
    exact .bl _
  · exact op_eqD hu pins s σ H _ _ v u Q I rx ry ⟨d, e, dp_of S.gh d _ hd (.inl s1), dp_of S.gh e _ he (.inl s2), s1, s2, q _ _ G H p.2 S.grow (.bl _)⟩
theorem do_ne (hu : X.A.units + 64 < cLine) : DO X (compareOp .NotEq) fNe := by
  intro pins s σ H x y v u Q I rx ry ⟨r, G, d, e, P, S, hd, he, p, q⟩
  rcases eqOk_shaped p.1 with (⟨a, b, rfl, rfl⟩ | ⟨a, rfl, rfl⟩ | ⟨a, rfl, rfl⟩) | ⟨s1, s2⟩
  · cases hd; cases he
    refine op_ne pins s σ H _ _ v u Q I rx ry ⟨rfl, q _ _ G H p.2 S.grow ?_⟩
    rw [show PyData.eqv (.str a) (.str b) = decide (V.str a = V.str b) by rw [PyData.eqv, dec_str]]
    exact .bl _
  · cases hd; cases he
    refine op_ne pins s σ H _ _ v u Q I rx ry ⟨rfl, q _ _ G H p.2 S.grow ?_⟩
    rw [show PyData.eqv (.str a) .none = decide (V.str a = V.non) by simp [PyData.eqv]]
    exact .bl _
  · cases hd; cases he
    refine op_ne pins s σ H _ _ v u Q I rx ry ⟨rfl, q _ _ G H p.2 S.grow ?_⟩
    rw [show PyData.eqv .none (.str a) = decide (V.non = V.str a) by simp [PyData.eqv]]
    exact .bl _
  · exact op_neD hu pins s σ H _ _ v u Q I rx ry ⟨d, e, dp_of S.gh d _ hd (.inl s1), dp_of S.gh e _ he (.inl s2), s1, s2, q _ _ G H p.2 S.grow (.bl _)⟩
/-- is None, is True -/
def isN : Dt → Bool
  | .none => true
  | _ => false
def fIs : F2 := fun x y P => match y with
  | .none => P (.bool (isN x))
  | .bool b => match x with
    | .bool a => P (.bool (decide (a = b)))
    | _ => False
  | _ => False
def fIsNot : F2 := fun x y P => match y with
  | .none => P (.bool (!isN x))
  | .bool b => match x with
    | .bool a => P (.bool (!decide (a = b)))
    | _ => False
  | _ => False
theorem isN_rep {K : Fg} {G : Hp} {v : V} {d : Dt} (h : Rep K G v d) : isN d = decide (v = .non) := by
  cases h <;> simp [isN]
theorem do_is : DO X (compareOp .Is) fIs := by
  intro pins s σ H x y v u Q I rx ry ⟨r, G, d, e, P, S, hd, he, p, q⟩
  cases e <;> try exact p.elim
  · cases he
    refine op_isN pins s σ H _ _ v u Q I rx ry ⟨rfl, q _ _ G H p S.grow ?_⟩
    rw [isN_rep hd]
    exact .bl _
  · cases d <;> try exact p.elim
    cases he; cases hd
    exact op_isBl pins s σ H _ _ v u Q I rx ry ⟨_, _, rfl, rfl, q _ _ G H p S.grow (.bl _)⟩
theorem do_isnot : DO X (compareOp .IsNot) fIsNot := by
  intro pins s σ H x y v u Q I rx ry ⟨r, G, d, e, P, S, hd, he, p, q⟩
  cases e <;> try exact p.elim
  · cases he
    refine op_notN pins s σ H _ _ v u Q I rx ry ⟨rfl, q _ _ G H p S.grow ?_⟩
    rw [isN_rep hd]
    exact .bl _
  · cases d <;> try exact p.elim
    cases he; cases hd
    exact op_notBl pins s σ H _ _ v u Q I rx ry ⟨_, _, rfl, rfl, q _ _ G H p S.grow (.bl _)⟩
def fNeg : F1 := fun x P => match x with
  | .int i => P (.int (-i))
  | _ => False
theorem de_neg (ha : DE X a ta) : DE X (.UnaryOp .USub a pos) (dUn fNeg ta) := PE.weak (pe_un un_neg ha) fun σ H Q ⟨r, G, ρ, P, E, p, q⟩ => ⟨r, G, ρ, _, E, p, fun v x G1 H1 p1 W1 R1 => by
  cases x <;> try exact p1.elim
  cases R1
  exact ⟨_, rfl, q _ _ _ _ p1 W1 (.int _)⟩⟩

/-! ### argument lists, displays -/
def dNil : PTA := fun _ P => P []
def dCons (t : PT0) (u : PTA) : PTA := fun ρ P => t ρ fun x => u ρ fun xs => P (x :: xs)
theorem da_nil : DA X [] dNil := PA.weak pa_nil fun σ H Q ⟨r, G, ρ, P, E, p, q⟩ => q [] [] G H p E.st.grow .nil
theorem da_cons {es : List Expr} {t : PTA} (ha : DE X a ta) (hr : DA X es t) (hs : starEach (a :: es) X.env = (false, eval a X.env) :: starEach es X.env := by rfl) : DA X (a :: es) (dCons ta t) :=
  PA.weak (pa_cons ha hr hs) fun σ H Q ⟨r, G, ρ, P, E, p, q⟩ => ⟨r, G, ρ, _, E, p, fun v x G1 H1 p1 W1 R1 => ⟨r, G1, ρ, _, E.grow W1, p1, fun vs xs G2 H2 p2 W2 R2 => q (v :: vs) (x :: xs) G2 H2 p2 (W1.trans W2) (.cons (R1.mono W2.g) R2)⟩⟩
def dTup (t : PTA) : PT0 := fun ρ P => t ρ fun xs => xs.length ≤ sizeLine ∧ P (.tuple xs)
def dLst (t : PTA) : PT0 := fun ρ P => t ρ fun xs => xs.length ≤ sizeLine ∧ P (.list xs)
theorem de_tup {es : List Expr} {t : PTA} {x1} (h : DA X es t) : DE X (.Tuple es x1 pos) (dTup t) := PE.weak (pe_tup h) fun σ H Q ⟨r, G, ρ, P, E, p, q⟩ => ⟨r, G, ρ, _, E, p, fun vs xs G1 H1 p1 W1 R1 => by
  refine ⟨by rw [R1.length]; exact p1.1, fun c hc => ?_⟩
  have W := (W1.start E.st).lay (o := .tup vs) hc
  exact q _ _ _ _ p1.2 (W1.trans W) (.tup upd_same (R1.mono W.g))⟩
theorem de_lst {es : List Expr} {t : PTA} (h : DA X es t) : DE X (.List es pos) (dLst t) := PE.weak (pe_lst h) fun σ H Q ⟨r, G, ρ, P, E, p, q⟩ => ⟨r, G, ρ, _, E, p, fun vs xs G1 H1 p1 W1 R1 => by
  refine ⟨by rw [R1.length]; exact p1.1, fun c hc => ?_⟩
  have W := (W1.start E.st).lay (o := .lst vs) hc
  exact q _ _ _ _ p1.2 (W1.trans W) (.lst upd_same (R1.mono W.g))⟩

/-! ### subscripts, slices -/
def fIx : F2 := fun x y P => match x, y with
  | .list xs, .int k => ∃ v, atI xs k = some v ∧ P v
  | .tuple xs, .int k => ∃ v, atI xs k = some v ∧ P v
  | .str z, .int k => z.length ≤ sizeLine ∧ ∃ c, atI z.cps.toList k = some c ∧ P (.str ⟨#[c]⟩)
  | _, _ => False
theorem atI_reps {K : Fg} {G : Hp} {vs : List V} {xs : List Dt} (R : Reps K G vs xs) {k : Int} {d : Dt} (h : atI xs k = some d) : ∃ v, atI vs k = some v ∧ Rep K G v d := by
  unfold atI at h ⊢
  rw [R.length]
  cases e : ixN xs.length k with
  | none => rw [e] at h; cases h
  | some j =>
    rw [e] at h
    exact R.get h
theorem di_ix : IxR X (liftO X.K fIx) := by
  intro va sl pins s σ H x y v u Q I rx ry ⟨r, G, d, e, P, S, hd, he, p, q⟩ hs
  cases d <;> cases e <;> try exact p.elim
  · cases hd; cases he
    obtain ⟨hz, c, h1, p⟩ := p
    exact ix_str va sl pins s σ H _ _ v u Q I rx ry ⟨_, _, c, rfl, rfl, hz, h1, q _ _ G H p S.grow (.str _)⟩ hs
  · cases hd with
    | lst e1 r1 =>
      cases he
      obtain ⟨w, h1, p⟩ := p
      obtain ⟨w', h2, R⟩ := atI_reps r1 h1
      exact ix_list va sl pins s σ H _ _ v u Q I rx ry ⟨_, _, _, w', rfl, rfl, SqL.of (S.gh _ _ e1), h2, q _ _ G H p S.grow R⟩ hs
  · cases hd with
    | tup e1 r1 =>
      cases he
      obtain ⟨w, h1, p⟩ := p
      obtain ⟨w', h2, R⟩ := atI_reps r1 h1
      exact ix_tup va sl pins s σ H _ _ v u Q I rx ry ⟨_, _, _, w', rfl, rfl, same_seqP S.gh e1, h2, q _ _ G H p S.grow R⟩ hs
theorem de_ix (ha : DE X a ta) (hb : DE X b tb) (hs : PlainIx b := by exact fun _ _ => rfl) : DE X (.Subscript a b pos) (dBin fIx ta tb) := PE.weak (pe_ix di_ix ha hb hs) fun σ H Q h => lift_bin h
/-- .. of a list of one's own -/
def dIxO (i : Nat) (tb : PT0) : PT0 := fun ρ P => ∃ xs, ρ[i]? = some (.own (.list xs)) ∧ tb ρ fun y => ∃ k, y = .int k ∧ ∃ v, atI xs k = some v ∧ P v
theorem de_ixO (i : Nat) {x : Str} {p0 : Pos} (hb : DE X b tb) (hs : PlainIx b := by exact fun _ _ => rfl) (hN : X.N[i]? = some x := by rfl) (hv : Vis X.env.scope x := by first | exact Or.inl rfl | exact Or.inr (Or.inl rfl) | exact Or.inr (Or.inr rfl)) (hd : (x == ("__debug__" : Str)) = false := by decide)
    (hcd : (x == ("__classdict__" : Str)) = false := by decide) : DE X (.Subscript (.Name x p0) b pos) (dIxO i tb) := PE.weak (pe_ix ix_list (pe_var hN hv hd hcd) hb hs) fun σ H Q ⟨r, G, ρ, P, E, ⟨xs, e, p⟩, q⟩ => by
  obtain ⟨a, h1, h2, h3, h4⟩ := E.getO e
  refine ⟨.ref a, h1, r, G, ρ, _, E, p, fun v y G1 H1 ⟨k, ek, w, h5, p1⟩ W1 R1 => ?_⟩
  subst ek
  cases R1
  obtain ⟨a', h1', h2', h3', h4'⟩ := (E.grow W1).getO e
  rw [h1] at h1'
  cases h1'
  cases h4' with
  | lst e5 r5 =>
    obtain ⟨w', h6, R⟩ := atI_reps r5 h5
    exact ⟨a, _, k, w', rfl, rfl, SqL.of e5, h6, q _ _ _ _ p1 W1 R⟩
/-- parts of a slice -/
abbrev PTO := List PV → (Option Int → Prop) → Prop
def liftP (K : Fg) (t : PTO) : TO := fun σ H Q => ∃ (r : Option Addr) (G : Hp) (ρ : List PV) (P : Option Int → Prop), EnvR K r G H σ ρ ∧ t ρ P ∧ ∀ o G' H', P o → Grow K r G H G' H' → Q o H'
def DP (X : Cx) (e : Option Expr) (t : PTO) : Prop := PO X e (liftP X.K t)
def dNoPart : PTO := fun _ P => P none
def dPart (t : PT0) : PTO := fun ρ P => t ρ fun x => ∃ i, x = .int i ∧ P (some i)
theorem PO.weak {X : Cx} {e : Option Expr} {t u : TO} (h : PO X e t) (w : ∀ σ H Q, u σ H Q → t σ H Q) : PO X e u := ⟨fun pins s σ H Q I q => h.run pins s σ H Q I (w σ H Q q)⟩
theorem dp_none : DP X none dNoPart := PO.weak po_none fun σ H Q ⟨r, G, ρ, P, E, p, q⟩ => q none G H p E.st.grow
theorem dp_some (h : DE X a ta) : DP X (some a) (dPart ta) := PO.weak (po_some h) fun σ H Q ⟨r, G, ρ, P, E, p, q⟩ => ⟨r, G, ρ, _, E, p, fun v x G1 H1 ⟨i, e, p1⟩ W1 R1 => by
  subst e
  cases R1
  exact ⟨i, rfl, q (some i) G1 H1 p1 W1⟩⟩
def cutD (xs : List Dt) (lo hi : Option Int) : List Dt := (xs.drop (HT.sIx xs.length 0 lo)).take (HT.sIx xs.length xs.length hi - HT.sIx xs.length 0 lo)
def fSl : Dt → Option Int → Option Int → (Dt → Prop) → Prop := fun x lo hi P => match x with
  | .list xs => P (.list (cutD xs lo hi))
  | .tuple xs => P (.tuple (cutD xs lo hi))
  | .str z => z.length ≤ sizeLine ∧ P (.str (cutS z lo hi))
  | _ => False
theorem Reps.cut {K : Fg} {G : Hp} {vs : List V} {xs : List Dt} (R : Reps K G vs xs) (lo hi : Option Int) : Reps K G (cutV vs lo hi) (cutD xs lo hi) := by
  unfold cutV cutD
  rw [R.length]
  exact (R.drop _).take _
theorem ds_any : SlR X (fun x lo hi H Q => ∃ (r : Option Addr) (G : Hp) (d : Dt) (P : Dt → Prop), Start X.K r G H ∧ Rep X.K G x d ∧ fSl d lo hi P ∧ ∀ v z G' H', P z → Grow X.K r G H G' H' → Rep X.K G' v z → Q v H') := by
  intro pins s σ H x v vl vu lo hi sl Q I rx hs pl pu ⟨r, G, d, P, S, hd, p, q⟩
  cases d <;> try exact p.elim
  · cases hd
    exact sl_str pins s σ H _ v vl vu lo hi sl Q I rx hs pl pu ⟨_, rfl, p.1, q _ _ G H p.2 S.grow (.str _)⟩
  · cases hd with
    | lst e1 r1 =>
      refine sl_list pins s σ H _ v vl vu lo hi sl Q I rx hs pl pu ⟨_, _, rfl, SqL.of (S.gh _ _ e1), fun c hc => ?_⟩
      refine q _ _ _ _ p (S.lay hc) ?_
      exact (.lst upd_same ((r1.cut lo hi).mono (S.lay hc).g))
  · cases hd with
    | @tup a vs xs e1 r1 =>
      refine sl_tupA pins s σ H _ v vl vu lo hi sl Q I rx hs pl pu ⟨_, _, rfl, same_seqP S.gh e1, fun hw => ?_, fun _ c hc => ?_⟩
      · refine q _ _ G H p S.grow ?_
        have e : ∀ ds : List Dt, vs.length = ds.length → cutD ds lo hi = ds := fun ds hl => by
          rw [hl] at hw
          unfold cutD
          rw [hw.1, hw.2, List.drop_zero, Nat.sub_zero, List.take_length]
        rw [e _ r1.length]
        exact .tup e1 r1
      · refine q _ _ _ _ p (S.lay hc) ?_
        exact (.tup upd_same ((r1.cut lo hi).mono (S.lay hc).g))
def dSl (te : PT0) (tl th : PTO) : PT0 := fun ρ P => te ρ fun x => tl ρ fun lo => th ρ fun hi => fSl x lo hi P
theorem de_sl {lo hi : Option Expr} {p2 : Pos} {tl th : PTO} (he : DE X a ta) (hl : DP X lo tl) (hu : DP X hi th) : DE X (.Subscript a (.Slice lo hi none p2) pos) (dSl ta tl th) := PE.weak (pe_slice ds_any he hl hu) fun σ H Q ⟨r, G, ρ, P, E, p, q⟩ =>
  ⟨r, G, ρ, _, E, p, fun v x G1 H1 p1 W1 R1 => ⟨r, G1, ρ, _, E.grow W1, p1, fun l G2 H2 p2 W2 => ⟨r, G2, ρ, _, E.grow (W1.trans W2), p2, fun u G3 H3 p3 W3 => by
    have W := (W1.trans W2).trans W3
    exact ⟨r, G3, x, P, W.start E.st, R1.mono (W2.g.trans W3.g), p3, fun v z G' H' p4 W4 R4 => q v z G' H' p4 (W.trans W4) R4⟩⟩⟩⟩
end
end PD
namespace PD
open PySem PySem.Spec PyProof.Rows L2

/-! ### built-in functions by what their values say -/
abbrev FC := List Dt → (Dt → Prop) → Prop
def liftC (K : Fg) (f : FC) : List V → Hp → VK → Prop := fun vs H Q => ∃ (r : Option Addr) (G : Hp) (ds : List Dt) (P : Dt → Prop), Start K r G H ∧ Reps K G vs ds ∧ f ds P ∧ ∀ v z G' H', P z → Grow K r G H G' H' → Rep K G' v z → Q v H'
def DC (X : Cx) (g : Value) (f : FC) : Prop := CallR X g (liftC X.K f)
def dApp (f : FC) (t : PTA) : PT0 := fun ρ P => t ρ fun xs => f xs P
section
variable {X : Cx} {pos p : Pos} {a b c : Expr} {ta tb tc : PT0} {f : FC} {es : List Expr} {t : PTA} {x : Str}
theorem lift_app {σ : L2.St} {H : Hp} {Q : VK} (h : liftE X.K (dApp f t) σ H Q) : tCB (liftC X.K f) (liftA X.K t) σ H Q := by
  obtain ⟨r, G, ρ, P, E, p, q⟩ := h
  exact ⟨r, G, ρ, _, E, p, fun vs xs G1 H1 p1 W1 R1 => ⟨r, G1, xs, P, W1.start E.st, R1, p1, fun w z G3 H3 p3 W3 R3 => q w z G3 H3 p3 (W1.trans W3) R3⟩⟩
theorem de_callB {id : String} (hc : DC X (.builtin id) f) (hg : Gl X x) (hm : X.mg x = none) (hv : bootBuiltins x = some (.builtin id)) (ha : DA X (a :: es) t) (hn : x ≠ "__name__" := by decide) (hdb : (x == ("__debug__" : Str)) = false := by decide)
    (he : starEach (a :: es) X.env = (false, eval a X.env) :: starEach es X.env := by rfl) (hpl : (backTo pos (starEach es X.env)).any (·.1) = false := by rfl) : DE X (.Call (.Name x p) (a :: es) [] pos) (dApp f t) :=
  PE.weak (pe_callB hc hg hm hv ha hn hdb he hpl) fun σ H Q h => lift_app h
theorem de_callT {T : String} (hc : DC X (.type T) f) (hg : Gl X x) (hm : X.mg x = none) (hv : bootBuiltins x = some (.type T)) (ha : DA X (a :: es) t) (hn : x ≠ "__name__" := by decide) (hdb : (x == ("__debug__" : Str)) = false := by decide)
    (he : starEach (a :: es) X.env = (false, eval a X.env) :: starEach es X.env := by rfl) (hpl : (backTo pos (starEach es X.env)).any (·.1) = false := by rfl) : DE X (.Call (.Name x p) (a :: es) [] pos) (dApp f t) :=
  PE.weak (pe_callTy hc hg hm hv ha hn hdb he hpl) fun σ H Q h => lift_app h
def fLen : FC := fun ds P => match ds with
  | [.str z] => z.length ≤ sizeLine ∧ P (.int z.length)
  | [.list xs] => P (.int xs.length)
  | [.tuple xs] => P (.int xs.length)
  | _ => False
theorem dc_len : DC X (.builtin "len") fLen := by
  intro pins s σ H xs us Q I rv ⟨r, G, ds, P, S, hd, p, q⟩
  cases hd with
  | nil => exact p.elim
  | cons h1 h2 =>
    cases h2 with
    | cons _ _ => cases h1 <;> exact p.elim
    | nil =>
      cases h1 <;> try exact p.elim
      · exact call_len pins s σ H _ us Q I rv ⟨_, _, rfl, ⟨p.1, rfl⟩, q _ _ G H p.2 S.grow (.int _)⟩
      · rename_i e1 r1
        exact call_len pins s σ H _ us Q I rv ⟨_, _, rfl, .inl ⟨_, SqL.of (S.gh _ _ e1), rfl⟩, by rw [r1.length]; exact q _ _ G H p S.grow (.int _)⟩
      · rename_i e1 r1
        exact call_len pins s σ H _ us Q I rv ⟨_, _, rfl, .inr ⟨_, same_seqP S.gh e1, rfl⟩, by rw [r1.length]; exact q _ _ G H p S.grow (.int _)⟩
/-- the lists of dBools, dInts, texts that stand in a datum -/
def dBools : List Dt → Option (List Bool)
  | [] => some []
  | .bool b :: r => (dBools r).map (b :: ·)
  | _ => none
def dInts : List Dt → Option (List Int)
  | [] => some []
  | .int b :: r => (dInts r).map (b :: ·)
  | _ => none
def dStrs : List Dt → Option (List Str)
  | [] => some []
  | .str b :: r => (dStrs r).map (b :: ·)
  | _ => none
theorem bools_eq : ∀ {ds : List Dt} {bs : List Bool}, dBools ds = some bs → ds = bs.map .bool
  | [], _, h => by cases h; rfl
  | d :: ds, bs, h => by
    cases d <;> try cases h
    cases e : dBools ds with
    | none => simp [dBools, e] at h
    | some r =>
      simp [dBools, e] at h
      subst h
      rw [bools_eq e]
      rfl
theorem ints_eq : ∀ {ds : List Dt} {bs : List Int}, dInts ds = some bs → ds = bs.map .int
  | [], _, h => by cases h; rfl
  | d :: ds, bs, h => by
    cases d <;> try cases h
    cases e : dInts ds with
    | none => simp [dInts, e] at h
    | some r =>
      simp [dInts, e] at h
      subst h
      rw [ints_eq e]
      rfl
theorem strs_eq : ∀ {ds : List Dt} {bs : List Str}, dStrs ds = some bs → ds = bs.map .str
  | [], _, h => by cases h; rfl
  | d :: ds, bs, h => by
    cases d <;> try cases h
    cases e : dStrs ds with
    | none => simp [dStrs, e] at h
    | some r =>
      simp [dStrs, e] at h
      subst h
      rw [strs_eq e]
      rfl
theorem bools_map : ∀ bs : List Bool, dBools (bs.map .bool) = some bs
  | [] => rfl
  | b :: bs => by simp [dBools, bools_map bs]
theorem ints_map : ∀ bs : List Int, dInts (bs.map .int) = some bs
  | [] => rfl
  | b :: bs => by simp [dInts, ints_map bs]
theorem strs_map : ∀ bs : List Str, dStrs (bs.map .str) = some bs
  | [] => rfl
  | b :: bs => by simp [dStrs, strs_map bs]
/-- one list in -/
theorem dc_list1 {g : Value} {f : FC} (h : ∀ (ds : List Dt) (P : Dt → Prop), f ds P → ∃ xs, ds = [.list xs])
    (k : ∀ (pins : List (Addr × Obj)) (s : Shared) (σ : L2.St) (H : Hp) (us : List Value) (Q : VK) (r : Option Addr) (G : Hp) (a : Addr) (vs : List V) (xs : List Dt) (P : Dt → Prop), Inv X pins σ H s → Vals [.ref a] us → Start X.K r G H → G a = some (.lst vs) → Reps X.K G vs xs → f [.list xs] P →
      (∀ v z G' H', P z → Grow X.K r G H G' H' → Rep X.K G' v z → Q v H') → wpAny (model X.prog X.w) X.A (call g us) (EP X pins σ Q) X.xe s) : DC X g f := by
  intro pins s σ H xs us Q I rv ⟨r, G, ds, P, S, hd, p, q⟩
  obtain ⟨zs, rfl⟩ := h ds P p
  cases hd with
  | cons h1 h2 =>
    cases h2
    cases h1 with
    | lst e r1 => exact k pins s σ H us Q r G _ _ zs P I rv S e r1 p q
def fAll : FC := fun ds P => match ds with
  | [.list xs] => ∃ bs, dBools xs = some bs ∧ P (.bool (bs.all id))
  | _ => False
def fAny : FC := fun ds P => match ds with
  | [.list xs] => ∃ bs, dBools xs = some bs ∧ P (.bool (bs.any id))
  | _ => False
def fSum : FC := fun ds P => match ds with
  | [.list xs] => ∃ bs, dInts xs = some bs ∧ P (.int bs.sum)
  | _ => False
theorem one_list {f : FC} (h : ∀ ds P, f ds P → match ds with | [.list _] => True | _ => False) : ∀ (ds : List Dt) (P : Dt → Prop), f ds P → ∃ xs, ds = [.list xs] := fun ds P p => by
  have := h ds P p
  split at this
  · exact ⟨_, rfl⟩
  · exact this.elim
theorem dc_all (hc : X.calm = true) : DC X (.builtin "all") fAll := dc_list1 (one_list fun ds P p => by unfold fAll at p; split at p <;> simp_all) fun pins s σ H us Q r G a vs xs P I rv S e r1 ⟨bs, hb, p⟩ q => by
  rw [bools_eq hb] at r1
  have e1 := r1.bls
  subst e1
  exact cr_all hc pins s σ H _ us Q I rv ⟨a, bs, rfl, SqL.of (S.gh _ _ e), q _ _ G H p S.grow (.bl _)⟩
theorem dc_any (hc : X.calm = true) : DC X (.builtin "any") fAny := dc_list1 (one_list fun ds P p => by unfold fAny at p; split at p <;> simp_all) fun pins s σ H us Q r G a vs xs P I rv S e r1 ⟨bs, hb, p⟩ q => by
  rw [bools_eq hb] at r1
  have e1 := r1.bls
  subst e1
  exact cr_any hc pins s σ H _ us Q I rv ⟨a, bs, rfl, SqL.of (S.gh _ _ e), q _ _ G H p S.grow (.bl _)⟩
theorem dc_sum (hc : X.calm = true) : DC X (.builtin "sum") fSum := dc_list1 (one_list fun ds P p => by unfold fSum at p; split at p <;> simp_all) fun pins s σ H us Q r G a vs xs P I rv S e r1 ⟨bs, hb, p⟩ q => by
  rw [ints_eq hb] at r1
  have e1 := r1.ints
  subst e1
  exact cr_sum hc pins s σ H _ us Q I rv ⟨a, bs, rfl, SqL.of (S.gh _ _ e), q _ _ G H p S.grow (.int _)⟩
/-- the least, the greatest of a list or of two -/
def fMin : FC := fun ds P => match ds with
  | [.list xs] => ∃ bs, dInts xs = some bs ∧ 0 < bs.length ∧ ∀ m, m ∈ bs → (∀ y, y ∈ bs → m ≤ y) → P (.int m)
  | [.int i, .int j] => P (.int (if j < i then j else i))
  | _ => False
def fMax : FC := fun ds P => match ds with
  | [.list xs] => ∃ bs, dInts xs = some bs ∧ 0 < bs.length ∧ ∀ m, m ∈ bs → (∀ y, y ∈ bs → y ≤ m) → P (.int m)
  | [.int i, .int j] => P (.int (if j > i then j else i))
  | _ => False
theorem dc_min (hc : X.calm = true) : DC X (.builtin "min") fMin := by
  intro pins s σ H xs us Q I rv ⟨r, G, ds, P, S, hd, p, q⟩
  unfold fMin at p
  split at p
  · cases hd with
    | cons h1 h2 =>
      cases h2
      cases h1 with
      | lst e r1 =>
        obtain ⟨bs, hb, h0, p⟩ := p
        rw [ints_eq hb] at r1
        have e1 := r1.ints
        subst e1
        exact cr_min hc pins s σ H _ us Q I rv ⟨_, bs, rfl, SqL.of (S.gh _ _ e), h0, fun m h1 h2 => q _ _ G H (p m h1 h2) S.grow (.int _)⟩
  · cases hd with
    | cons h1 h2 =>
      cases h2 with
      | cons h2 h3 =>
        cases h3; cases h1; cases h2
        exact call_min2 hc pins s σ H _ us Q I rv ⟨_, _, rfl, q _ _ G H p S.grow (.int _)⟩
  · exact p.elim
theorem dc_max (hc : X.calm = true) : DC X (.builtin "max") fMax := by
  intro pins s σ H xs us Q I rv ⟨r, G, ds, P, S, hd, p, q⟩
  unfold fMax at p
  split at p
  · cases hd with
    | cons h1 h2 =>
      cases h2
      cases h1 with
      | lst e r1 =>
        obtain ⟨bs, hb, h0, p⟩ := p
        rw [ints_eq hb] at r1
        have e1 := r1.ints
        subst e1
        exact cr_max hc pins s σ H _ us Q I rv ⟨_, bs, rfl, SqL.of (S.gh _ _ e), h0, fun m h1 h2 => q _ _ G H (p m h1 h2) S.grow (.int _)⟩
  · cases hd with
    | cons h1 h2 =>
      cases h2 with
      | cons h2 h3 =>
        cases h3; cases h1; cases h2
        exact call_max2 hc pins s σ H _ us Q I rv ⟨_, _, rfl, q _ _ G H p S.grow (.int _)⟩
  · exact p.elim
def fTuple : FC := fun ds P => match ds with
  | [.list xs] => P (.tuple xs)
  | [.tuple xs] => P (.tuple xs)
  | _ => False
theorem dc_tuple : DC X (.type "tuple") fTuple := by
  intro pins s σ H xs us Q I rv ⟨r, G, ds, P, S, hd, p, q⟩
  unfold fTuple at p
  split at p
  · cases hd with
    | cons h1 h2 =>
      cases h2
      cases h1 with
      | lst e r1 =>
        refine call_tuple_of pins s σ H _ us Q I rv ⟨_, _, rfl, .inl ⟨SqL.of (S.gh _ _ e), fun l hl => ?_⟩⟩
        refine q _ _ _ _ p (S.lay hl) ?_
        exact .tup upd_same (r1.mono (S.lay hl).g)
  · cases hd with
    | cons h1 h2 =>
      cases h2
      cases h1 with
      | tup e r1 => exact call_tuple_of pins s σ H _ us Q I rv ⟨_, _, rfl, .inr ⟨same_seqP S.gh e, q _ _ G H p S.grow (.tup e r1)⟩⟩
  · exact p.elim
def fList : FC := fun ds P => match ds with
  | [.list xs] => P (.list xs)
  | [.tuple xs] => P (.list xs)
  | _ => False
theorem dc_list : DC X (.type "list") fList := by
  intro pins s σ H xs us Q I rv ⟨r, G, ds, P, S, hd, p, q⟩
  unfold fList at p
  split at p
  · cases hd with
    | cons h1 h2 =>
      cases h2
      cases h1 with
      | lst e r1 =>
        refine call_list_of pins s σ H _ us Q I rv ⟨_, _, rfl, .inl (SqL.of (S.gh _ _ e)), fun l hl => ?_⟩
        refine q _ _ _ _ p (S.lay hl) ?_
        exact .lst upd_same (r1.mono (S.lay hl).g)
  · cases hd with
    | cons h1 h2 =>
      cases h2
      cases h1 with
      | tup e r1 =>
        refine call_list_of pins s σ H _ us Q I rv ⟨_, _, rfl, .inr (same_seqP S.gh e), fun l hl => ?_⟩
        refine q _ _ _ _ p (S.lay hl) ?_
        exact .lst upd_same (r1.mono (S.lay hl).g)
  · exact p.elim
def fIntC : FC := fun ds P => match ds with
  | [.int i] => P (.int i)
  | [.bool b] => P (.int (if b then 1 else 0))
  | _ => False
theorem dc_int : DC X (.type "int") fIntC := by
  intro pins s σ H xs us Q I rv ⟨r, G, ds, P, S, hd, p, q⟩
  unfold fIntC at p
  split at p
  · cases hd with
    | cons h1 h2 =>
      cases h2; cases h1
      exact call_int1 pins s σ H _ us Q I rv (.inl ⟨_, rfl, q _ _ G H p S.grow (.int _)⟩)
  · cases hd with
    | cons h1 h2 =>
      cases h2; cases h1
      exact call_int1 pins s σ H _ us Q I rv (.inr ⟨_, rfl, q _ _ G H p S.grow (.int _)⟩)
  · exact p.elim
/-- sorted, of dInts -/
def fSortI : FC := fun ds P => match ds with
  | [.list xs] => ∃ bs, dInts xs = some bs ∧ ∀ cs : List Int, cs.Perm bs → cs.Pairwise (· ≤ ·) → P (.list (cs.map .int))
  | _ => False

/-! ### isinstance -/
def typeD : Dt → String
  | .none => "NoneType"
  | .bool _ => "bool"
  | .int _ => "int"
  | .str _ => "str"
  | .list _ => "list"
  | .tuple _ => "tuple"
  | .dict _ => "dict"
/-- a value's type: as the library has it, or a known dict whose keys are tuples -/
inductive TyY (K : Fg) (H : Hp) : V → Value → Prop
  | x {v : V} {t : Value} (h : TyX K H v t) : TyY K H v t
  | dT {a : Addr} {o : Obj} {kvs : List (List Key × V)} (h : H a = some (.frz o (.dT kvs))) : TyY K H (.ref a) (.type "dict")
theorem kit_ofY {X : Cx} {pins : List (Addr × Obj)} {σ : L2.St} {H : Hp} {s : Shared} {v : V} {w t : Value} (I : Inv X pins σ H s) (rv : RelV v w) (h : TyY X.K H v t) :
    ∃ Z : Heap → Prop, PySem.W.KitX X.K w t Z ∧ Z s.heap ∧ w ≠ .builtin "__main__.__loader__#opaque" := by
  cases h with
  | x h => exact kit_of I rv h
  | @dT a ob kvs h =>
    cases (show w = Value.ref a from rv)
    obtain ⟨_, _, _, _, _, o, _, _, g1, g2, _⟩ := (show ObjOk X.prog X.w H s.heap a (.frz ob (.dT kvs)) from I.hok a _ h)
    exact ⟨_, PySem.W.kitx_dict, ⟨o, g1, g2.1⟩, fun z => nomatch z⟩
def rIsY (K : Fg) : List V → Hp → VK → Prop := fun as H Q => ∃ (v c : V) (t cl : Value) (b : Bool), as = [v, c] ∧ ClsV c cl ∧ TyY K H v t ∧ PySem.W.kitOne K t cl = some b ∧ Q (.bl b) H
def rIsYT (K : Fg) : List V → Hp → VK → Prop := fun as H Q => ∃ (v : V) (p : Addr) (cs : List V) (t : Value) (cls : List Value) (b : Bool), as = [v, .ref p] ∧ H p = some (.tup cs) ∧ Paired ClsV cs cls ∧ TyY K H v t ∧ PySem.W.kitAny K t cls = some b ∧ Q (.bl b) H
theorem call_isY {X : Cx} : CallR X (.builtin "isinstance") (rIsY X.K) := by
  intro pins s σ H as ws Q I rv h
  obtain ⟨v, c, t, cl, b, rfl, hk, hy, hb, q⟩ := h
  obtain ⟨w1, w2, rfl, g1, g2⟩ := vals2 rv
  have ec := hk.eq g2
  subst ec
  obtain ⟨Z, hZ, hz, hn⟩ := kit_ofY I g1 hy
  exact PySem.W.kia_one hZ I.kIn hz hb hn fun tk => ⟨.bl b, H, I.tok tk, rfl, q⟩
theorem call_isYT {X : Cx} : CallR X (.builtin "isinstance") (rIsYT X.K) := by
  intro pins s σ H as ws Q I rv h
  obtain ⟨v, p, cs, t, cls, b, rfl, hp, hk, hy, hb, q⟩ := h
  obtain ⟨w1, w2, rfl, g1, g2⟩ := vals2 rv
  cases (show w2 = Value.ref p from g2)
  obtain ⟨Z, hZ, hz, hn⟩ := kit_ofY I g1 hy
  obtain ⟨_, its, gv, o, e1, e2, m, e3⟩ := (show ObjOk X.prog X.w H s.heap p (.tup cs) from I.hok p _ hp)
  have ec := ClsV.all hk gv
  subst ec
  obtain ⟨oc, od, dat, slots⟩ := o
  simp only at e2 e3
  subst e2 e3
  exact PySem.W.kia_tup hZ I.kIn hz e1 hb hn fun tk => ⟨.bl b, H, I.tok tk, rfl, q⟩
theorem tyx_of {K : Fg} {G H : Hp} (g : Same G H) {v : V} {d : Dt} (h : Rep K G v d) : TyY K H v (.type (typeD d)) := by
  cases h with
  | non => exact .x (.base .non)
  | bl => exact .x (.base (.bl _))
  | int => exact .x (.base (.int _))
  | str => exact .x (.base (.str _))
  | lst e _ => exact .x (.base (.lst (g _ _ e)))
  | tup e _ =>
    rcases same_seqP g e with (e | ⟨o, e⟩) | ⟨o, its, n, h1, h2, _⟩
    · exact .x (.base (.tup e))
    · exact .x (.fTuple e)
    · exact .x (.kTuple h1 h2)
  | dic e _ => exact .x (.fDict (g _ _ e))
  | dicT e _ => exact .dT (g _ _ e)
def isTupD : Dt → Bool
  | .tuple _ => true
  | _ => false
def isLstD : Dt → Bool
  | .list _ => true
  | _ => false
def isDicD : Dt → Bool
  | .dict _ => true
  | _ => false
def isStrD : Dt → Bool
  | .str _ => true
  | _ => false
def isIntD : Dt → Bool
  | .int _ => true
  | .bool _ => true
  | _ => false
def isBoolD : Dt → Bool
  | .bool _ => true
  | _ => false
def isSeqD (d : Dt) : Bool := isTupD d || isLstD d
theorem kit_tup (d : Dt) : kitB (typeD d) "tuple" = some (isTupD d) := by cases d <;> simp only [typeD, isTupD] <;> decide +kernel
theorem kit_lst (d : Dt) : kitB (typeD d) "list" = some (isLstD d) := by cases d <;> simp only [typeD, isLstD] <;> decide +kernel
theorem kit_dic (d : Dt) : kitB (typeD d) "dict" = some (isDicD d) := by cases d <;> simp only [typeD, isDicD] <;> decide +kernel
theorem kit_str (d : Dt) : kitB (typeD d) "str" = some (isStrD d) := by cases d <;> simp only [typeD, isStrD] <;> decide +kernel
theorem kit_int (d : Dt) : kitB (typeD d) "int" = some (isIntD d) := by cases d <;> simp only [typeD, isIntD] <;> decide +kernel
theorem kit_bool (d : Dt) : kitB (typeD d) "bool" = some (isBoolD d) := by cases d <;> simp only [typeD, isBoolD] <;> decide +kernel
def dIs (g : Dt → Bool) (ta : PT0) : PT0 := fun ρ P => ta ρ fun x => P (.bool (g x))
theorem de_isi {T : Str} {n : String} {g : Dt → Bool} {p2 : Pos} (hk : ∀ d, kitB (typeD d) n = some (g d)) (ha : DE X a ta) (hm : X.mg "isinstance" = none) (hm2 : X.mg T = none) (hv2 : bootBuiltins T = some (.type n)) (hg : Gl X "isinstance" := by rfl) (hg2 : Gl X T := by rfl) (hv : bootBuiltins "isinstance" = some (.builtin "isinstance") := by decide +kernel)
    (hn : T ≠ "__name__" := by decide) (hdb : (T == ("__debug__" : Str)) = false := by decide)
    (hs : starEach (a :: [.Name T p2]) X.env = (false, eval a X.env) :: starEach [.Name T p2] X.env := by rfl) (hs2 : starEach [.Name T p2] X.env = (false, eval (.Name T p2) X.env) :: starEach [] X.env := by rfl) (hpl : (backTo pos (starEach [.Name T p2] X.env)).any (·.1) = false := by rfl) :
    DE X (.Call (.Name "isinstance" p) [a, .Name T p2] [] pos) (dIs g ta) := by
  refine PE.weak (pe_callB call_isY hg hm hv (pa_cons ha (pa_cons (pe_bltn (v := .ty n) hg2 hm2 hv2 rfl hn hdb) pa_nil hs2) hs) (he := hs) (hpl := hpl)) fun σ H Q ⟨r, G, ρ, P, E, p, q⟩ => ?_
  exact ⟨r, G, ρ, _, E, p, fun v x G1 H1 p1 W1 R1 => ⟨v, .ty n, .type (typeD x), .type n, g x, rfl, .ty n, tyx_of W1.gh R1, kit_ty (hk x), q _ _ _ _ p1 W1 (.bl _)⟩⟩
/-- isinstance(x, (tuple, list)) -/
theorem de_isi2 {T U : Str} {m n : String} {g h : Dt → Bool} {p2 p3 p4 : Pos} {k4} (hk : ∀ d, kitB (typeD d) m = some (g d)) (hk2 : ∀ d, kitB (typeD d) n = some (h d)) (ha : DE X a ta) (hm : X.mg "isinstance" = none) (hm1 : X.mg T = none) (hm2 : X.mg U = none)
    (hv1 : bootBuiltins T = some (.type m)) (hv2 : bootBuiltins U = some (.type n)) (hg : Gl X "isinstance" := by rfl) (hg1 : Gl X T := by rfl) (hg2 : Gl X U := by rfl) (hv : bootBuiltins "isinstance" = some (.builtin "isinstance") := by decide +kernel)
    (hn1 : T ≠ "__name__" := by decide) (hdb1 : (T == ("__debug__" : Str)) = false := by decide) (hn2 : U ≠ "__name__" := by decide) (hdb2 : (U == ("__debug__" : Str)) = false := by decide)
    (hs : starEach (a :: [.Tuple [.Name T p2, .Name U p3] k4 p4]) X.env = (false, eval a X.env) :: starEach [.Tuple [.Name T p2, .Name U p3] k4 p4] X.env := by rfl) (hs2 : starEach [.Tuple [.Name T p2, .Name U p3] k4 p4] X.env = (false, eval (.Tuple [.Name T p2, .Name U p3] k4 p4) X.env) :: starEach [] X.env := by rfl)
    (hs3 : starEach [.Name T p2, .Name U p3] X.env = (false, eval (.Name T p2) X.env) :: starEach [.Name U p3] X.env := by rfl) (hs4 : starEach [.Name U p3] X.env = (false, eval (.Name U p3) X.env) :: starEach [] X.env := by rfl)
    (hpl : (backTo pos (starEach [.Tuple [.Name T p2, .Name U p3] k4 p4] X.env)).any (·.1) = false := by rfl) :
    DE X (.Call (.Name "isinstance" p) [a, .Tuple [.Name T p2, .Name U p3] k4 p4] [] pos) (dIs (fun d => g d || h d) ta) := by
  refine PE.weak (pe_callB call_isYT hg hm hv (pa_cons ha (pa_cons (pe_tup (pa_cons (pe_bltn (v := .ty m) hg1 hm1 hv1 rfl hn1 hdb1) (pa_cons (pe_bltn (v := .ty n) hg2 hm2 hv2 rfl hn2 hdb2) pa_nil hs4) hs3)) pa_nil hs2) hs) (he := hs) (hpl := hpl)) fun σ H Q ⟨r, G, ρ, P, E, p, q⟩ => ?_
  refine ⟨r, G, ρ, _, E, p, fun v x G1 H1 p1 W1 R1 => ⟨by show 2 ≤ sizeLine; decide, fun c hc => ⟨v, c, [.ty m, .ty n], .type (typeD x), [.type m, .type n], g x || h x, rfl, upd_same, .cons (.ty m) (.cons (.ty n) .nil), ?_, kitAny_cons (kit_ty (hk x)) (fun e => kitAny_cons (r := g x || h x) (kit_ty (hk2 x)) (fun e2 => ?_) (fun e2 => ?_)) (fun e => ?_), ?_⟩⟩⟩
  · exact tyx_of (W1.gh.trans (same_upd hc)) R1
  · rw [e, e2]; exact kitAny_nil
  · rw [e2, Bool.or_true]
  · rw [e, Bool.true_or]
  · exact q _ _ _ _ p1 (W1.trans ((W1.start E.st).lay hc)) (.bl _)
end
end PD
namespace PD
open PySem PySem.Spec PyProof.Rows L2

section
variable {K : Fg} {r : Option Addr} {G H G' H' : Hp} {p : Addr} {o : HO}
/-- a new object that is not frozen yet -/
theorem Start.lay0 (S : Start K r G H) (hp : H p = none) : Grow K r G H G (upd H p o) :=
  ⟨Same.refl _, fun b u _ e => (upd_ne (ne_of_none e hp)).trans e, fun b u e => (upd_ne (ne_of_none (S.gh _ _ e) hp)).trans (S.gh _ _ e), fun _ _ _ e => e, fun a e => by
    have q := (S.row a e).2
    obtain ⟨_, _, _, _, _, h2, _⟩ := id q
    exact q.at (Same.refl _) (upd_ne (ne_of_none h2 hp))⟩
/-- a young object that is not frozen may change -/
theorem Grow.off (W : Grow K r G H G' H') (hp : H p = none) (gp : G' p = none) (hr : r ≠ some p) : Grow K r G H G' (upd H' p o) :=
  ⟨W.g, fun b u n e => (upd_ne (ne_of_none e hp)).trans (W.h b u n e), fun b u e => (upd_ne (ne_of_none e gp)).trans (W.gh _ _ e), W.y, fun a e => by
    have ne : a ≠ p := fun z => hr (z ▸ e)
    exact (W.row a e).at (Same.refl _) (upd_ne ne)⟩
/-- .. and is frozen -/
theorem Grow.freeze (W : Grow K r G H G' H') (hp : H p = none) (gp : G' p = none) (ho : H' p = some o) : Grow K r G H (upd G' p o) H' :=
  ⟨W.g.trans (same_upd gp), W.h, fun b u e => by
    by_cases hb : b = p
    · subst hb; rw [upd_same] at e; rw [ho, e]
    · rw [upd_ne hb] at e; exact W.gh _ _ e, fun b u e n => (upd_ne (ne_of_none e hp)).trans (W.y b u e n), fun a e => (W.row a e).at (same_upd gp) rfl⟩
theorem Start.rowNe (S : Start K r G H) (hp : H p = none) : r ≠ some p := fun e => by
  obtain ⟨_, _, _, _, _, _, h2, _⟩ := S.row p e
  rw [hp] at h2; cases h2
end

/-! ### slots forgotten -/
def wipeP (ρ : List PV) : List Nat → List PV
  | [] => ρ
  | v :: vs => (wipeP ρ vs).set v .un
theorem wipe_get (σ : L2.St) (k : Nat) : ∀ vs : List Nat, (wipe σ vs)[k]? = if k ∈ vs then (σ[k]?).map (fun _ => none) else σ[k]?
  | [] => by simp [wipe]
  | v :: vs => by
    unfold wipe
    rw [List.getElem?_set, wipe_get σ k vs, wipe_length]
    by_cases h : v = k
    · subst h
      by_cases hl : v < σ.length
      · simp [hl]
      · simp [hl, List.getElem?_eq_none (Nat.le_of_not_lt hl)]
    · simp [h, Ne.symm h]
theorem wipe_twice {σ τ : L2.St} {vs js : List Nat} (hj : ∀ j ∈ js, j ∈ vs) (h : ∀ k, k ∉ js → τ[k]? = (wipe σ vs)[k]?) (hl : τ.length = σ.length) : wipe τ vs = wipe σ vs := by
  apply List.ext_getElem?
  intro k
  rw [wipe_get, wipe_get]
  by_cases hk : k ∈ vs
  · rw [if_pos hk, if_pos hk]
    by_cases hs : k < σ.length
    · rw [List.getElem?_eq_getElem hs, List.getElem?_eq_getElem (hl ▸ hs)]; rfl
    · rw [List.getElem?_eq_none (Nat.le_of_not_lt hs), List.getElem?_eq_none (by omega)]
  · rw [if_neg hk, if_neg hk, h k (fun z => hk (hj k z)), wipe_get, if_neg hk]
section
variable {K : Fg} {r : Option Addr} {G H G' H' : Hp} {σ : L2.St} {ρ : List PV}
theorem EnvR.un (E : EnvR K r G H σ ρ) (i : Nat) (o : Option V) : EnvR K r G H (σ.set i o) (ρ.set i .un) := by
  refine ⟨E.st, by simp [E.len], fun j p e => ?_, fun j k a x' y' e1 e2 e3 e4 => ?_, apart_set E.apart (fun _ => by simp) (fun _ _ _ => by simp)⟩
  · by_cases hj : j = i
    · subst hj
      have hl : j < ρ.length := by
        have := (List.getElem?_eq_some_iff.mp e).1
        simpa using this
      rw [List.getElem?_set_self hl] at e
      cases e
      exact ⟨o, List.getElem?_set_self (by rw [E.len]; exact hl), trivial⟩
    · rw [List.getElem?_set_ne (Ne.symm hj)] at e ⊢
      exact E.slot j p e
  · have h1 : j ≠ i := fun z => by
      subst z
      rw [List.getElem?_set] at e1
      split at e1
      · split at e1 <;> cases e1
      · contradiction
    have h2 : k ≠ i := fun z => by
      subst z
      rw [List.getElem?_set] at e2
      split at e2
      · split at e2 <;> cases e2
      · contradiction
    rw [List.getElem?_set_ne (Ne.symm h1)] at e1 e3
    rw [List.getElem?_set_ne (Ne.symm h2)] at e2 e4
    exact E.dist j k a x' y' e1 e2 e3 e4
theorem EnvR.wipe (E : EnvR K r G H σ ρ) : ∀ vs : List Nat, EnvR K r G H (L2.wipe σ vs) (wipeP ρ vs)
  | [] => E
  | v :: vs => (EnvR.wipe E vs).un v none
end

/-! ### targets -/
abbrev PTG := Dt → List PV → (List PV → Prop) → Prop
abbrev PTGs := List Dt → List PV → (List PV → Prop) → Prop
/-- what a store of frozen data leaves as it was -/
structure Sets (js : List Nat) (σ : L2.St) (ρ : List PV) (σ' : L2.St) (ρ' : List PV) : Prop where
  other : ∀ k, k ∉ js → σ'[k]? = σ[k]? ∧ ρ'[k]? = ρ[k]?
  len : σ'.length = σ.length
  d : ∀ k x, k ∈ js → ρ'[k]? ≠ some (.own x)
  o : ∀ k C a fs, k ∈ js → ρ'[k]? ≠ some (.obj C a fs)
theorem Sets.refl (σ : L2.St) (ρ : List PV) : Sets [] σ ρ σ ρ := ⟨fun _ _ => ⟨rfl, rfl⟩, rfl, fun _ _ h => by simp at h, fun _ _ _ _ h => by simp at h⟩
theorem Sets.trans {js ks : List Nat} {σ σ1 σ2 : L2.St} {ρ ρ1 ρ2 : List PV} (a : Sets js σ ρ σ1 ρ1) (b : Sets ks σ1 ρ1 σ2 ρ2) : Sets (js ++ ks) σ ρ σ2 ρ2 :=
  ⟨fun k h => by
    rw [List.mem_append, not_or] at h
    have h1 := a.other k h.1
    have h2 := b.other k h.2
    exact ⟨h2.1.trans h1.1, h2.2.trans h1.2⟩, b.len.trans a.len, fun k x h => by
    by_cases hk : k ∈ ks
    · exact b.d k x hk
    · rw [(b.other k hk).2]
      exact a.d k x ((List.mem_append.mp h).resolve_right hk), fun k C c fs h => by
    by_cases hk : k ∈ ks
    · exact b.o k C c fs hk
    · rw [(b.other k hk).2]
      exact a.o k C c fs ((List.mem_append.mp h).resolve_right hk)⟩
def liftG (K : Fg) (js : List Nat) (g : PTG) : TG := fun v σ H Q => ∃ (r : Option Addr) (G : Hp) (ρ : List PV) (x : Dt) (P : List PV → Prop), EnvR K r G H σ ρ ∧ Rep K G v x ∧ g x ρ P ∧ ∀ σ' ρ', P ρ' → EnvR K r G H σ' ρ' → Sets js σ ρ σ' ρ' → Q σ' H
def liftGs (K : Fg) (js : List Nat) (g : PTGs) : TGs := fun vs σ H Q => ∃ (r : Option Addr) (G : Hp) (ρ : List PV) (xs : List Dt) (P : List PV → Prop), EnvR K r G H σ ρ ∧ Reps K G vs xs ∧ g xs ρ P ∧ ∀ σ' ρ', P ρ' → EnvR K r G H σ' ρ' → Sets js σ ρ σ' ρ' → Q σ' H
def DG (X : Cx) (e : Expr) (js : List Nat) (g : PTG) : Prop := PG X e (liftG X.K js g)
def DGs (X : Cx) (es : List Expr) (js : List Nat) (g : PTGs) : Prop := PGs X es (liftGs X.K js g)
theorem PG.weak {X : Cx} {e : Expr} {t u : TG} (h : PG X e t) (w : ∀ v σ H Q, u v σ H Q → t v σ H Q) : PG X e u := ⟨fun pins s σ H v u Q I r q => h.run pins s σ H v u Q I r (w v σ H Q q)⟩
theorem PGs.weak {X : Cx} {e : List Expr} {t u : TGs} (h : PGs X e t) (w : ∀ v σ H Q, u v σ H Q → t v σ H Q) : PGs X e u := ⟨fun pins s σ H v u Q I r q => h.run pins s σ H v u Q I r (w v σ H Q q)⟩
def aName (i : Nat) : PTG := fun x ρ P => P (ρ.set i (.d x))
def aNil : PTGs := fun xs ρ P => xs = [] ∧ P ρ
def aCons (t : PTG) (u : PTGs) : PTGs := fun xs ρ P => ∃ x r, xs = x :: r ∧ t x ρ fun ρ' => u r ρ' P
def aTup (n : Nat) (t : PTGs) : PTG := fun x ρ P => ∃ xs, x = .tuple xs ∧ xs.length = n ∧ t xs ρ P
section
variable {X : Cx} {pos : Pos}
theorem dg_name (i : Nat) {x : Str} (hN : X.N.Nodup) (hi : X.N[i]? = some x := by rfl) (hx : Loc X.env.scope x := by first | exact Or.inl rfl | exact Or.inr rfl) (hf : X.fn x = true ∨ X.env.scope.names.lookup x = some .local := by first | exact .inl rfl | exact .inr rfl) : DG X (.Name x pos) [i] (aName i) :=
  PG.weak (pg_name hN hi hx hf) fun v σ H Q ⟨r, G, ρ, x, P, E, R, p, q⟩ => q _ _ p (E.set R) ⟨fun k hk => by
    have : i ≠ k := fun z => hk (by simp [z])
    exact ⟨List.getElem?_set_ne this, List.getElem?_set_ne this⟩, by simp, fun k y hk => by
    have : k = i := by simpa using hk
    subst this
    rw [List.getElem?_set]
    simp only [if_true]
    split <;> simp, fun k C a fs hk => by
    have : k = i := by simpa using hk
    subst this
    rw [List.getElem?_set]
    simp only [if_true]
    split <;> simp⟩
theorem dgs_nil : DGs X [] [] aNil := PGs.weak pgs_nil fun vs σ H Q ⟨r, G, ρ, xs, P, E, R, ⟨e, p⟩, q⟩ => by
  subst e
  cases R
  exact ⟨rfl, q _ _ p E (Sets.refl _ _)⟩
theorem dgs_cons {e : Expr} {es : List Expr} {js ks : List Nat} {t : PTG} {u : PTGs} (h1 : DG X e js t) (h2 : DGs X es ks u)
    (hs : (assignEach (e :: es) X.env).map (·.2) = assign e X.env :: (assignEach es X.env).map (·.2) := by rfl) : DGs X (e :: es) (js ++ ks) (aCons t u) := PGs.weak (pgs_cons h1 h2 hs) fun vs σ H Q ⟨r, G, ρ, xs, P, E, R, ⟨x, xr, e, p⟩, q⟩ => by
  subst e
  cases R with
  | cons R1 R2 => exact ⟨_, _, rfl, r, G, ρ, x, _, E, R1, p, fun σ1 ρ1 p1 E1 S1 => ⟨r, G, ρ1, xr, P, E1, R2, p1, fun σ2 ρ2 p2 E2 S2 => q _ _ p2 E2 (S1.trans S2)⟩⟩
theorem dg_tup {es : List Expr} {k : Nat} {js : List Nat} {t : PTGs} {n : Nat} (hc : X.calm = true) (h : DGs X es js t)
    (hn : (assignEach es X.env).length = n := by rfl) (hst : (assignEach es X.env).findIdx? (·.1) = none := by rfl) : DG X (.Tuple es k pos) js (aTup n t) := PG.weak (pg_tup hc h hn hst) fun v σ H Q ⟨r, G, ρ, x, P, E, R, ⟨xs, e, hl, p⟩, q⟩ => by
  subst e
  cases R with
  | tup e R => exact ⟨_, _, rfl, same_seqP E.st.gh e, by rw [R.length]; exact hl, r, G, ρ, xs, P, E, R, p, q⟩
end

/-! ### what is walked -/
abbrev PTI := List PV → (List Dt → Prop) → Prop
structure ItR (K : Fg) (G : Hp) (J : It) (xs : List Dt) : Prop where
  len : xs.length ≤ sizeLine
  ex : ∃ (Gd : Hp → Prop) (Y : Nat → Hp → V → Hp → Prop), Walk J xs.length Gd Y ∧ (∀ H, Same G H → Gd H) ∧ ∀ i H v H' x Gc r, Same G Gc → Start K r Gc H → xs[i]? = some x → Y i H v H' → ∃ Gc', Grow K r Gc H Gc' H' ∧ Rep K Gc' v x
def liftI (K : Fg) (t : PTI) : TI := fun σ H R => ∃ (r : Option Addr) (G : Hp) (ρ : List PV) (P : List Dt → Prop), EnvR K r G H σ ρ ∧ t ρ P ∧ ∀ J xs G' H', P xs → Grow K r G H G' H' → ItR K G' J xs → R J H'
def DI (X : Cx) (tg e : Expr) (t : PTI) : Prop := PI X tg e (liftI X.K t)
theorem PI.weak {X : Cx} {tg e : Expr} {t u : TI} (h : PI X tg e t) (w : ∀ σ H Q, u σ H Q → t σ H Q) : PI X tg e u := ⟨fun pins s σ H R I q => h.run pins s σ H R I (w σ H R q)⟩
section
variable {K : Fg} {G : Hp}
theorem itr_list {a : Addr} {vs : List V} {xs : List Dt} (e : G a = some (.lst vs)) (R : Reps K G vs xs) (hz : xs.length ≤ sizeLine) : ItR K G (Itl K a) xs :=
  ⟨hz, _, _, R.length ▸ walk_list (xs := vs), fun H g => SqL.of (g _ _ e), fun i H v H' x Gc r g S hx ⟨h1, h2⟩ => by
    subst h1
    obtain ⟨w, e1, r1⟩ := R.get hx
    rw [h2] at e1
    cases e1
    exact ⟨Gc, S.grow, r1.mono g⟩⟩
theorem itr_tup {a : Addr} {vs : List V} {xs : List Dt} (e : G a = some (.tup vs)) (R : Reps K G vs xs) (hz : xs.length ≤ sizeLine) : ItR K G (Itt K a) xs :=
  ⟨hz, _, _, R.length ▸ walk_tup (xs := vs), fun H g => same_seqP g e, fun i H v H' x Gc r g S hx ⟨h1, h2⟩ => by
    subst h1
    obtain ⟨w, e1, r1⟩ := R.get hx
    rw [h2] at e1
    cases e1
    exact ⟨Gc, S.grow, r1.mono g⟩⟩
def rangeD (lo : Int) (n : Nat) : List Dt := (List.range n).map fun i => .int (lo + (i : Nat))
theorem rangeD_length (lo : Int) (n : Nat) : (rangeD lo n).length = n := by simp [rangeD]
theorem itr_range {lo : Int} {n : Nat} (hz : n ≤ sizeLine) : ItR K G (Itr lo n) (rangeD lo n) :=
  ⟨by rw [rangeD_length]; exact hz, fun _ => True, YFn fun i => .int (lo + i), by rw [rangeD_length]; exact walk_range, fun _ _ => trivial, fun i H v H' x Gc r g S hx ⟨h1, h2⟩ => by
    subst h1 h2
    refine ⟨Gc, S.grow, ?_⟩
    unfold rangeD at hx
    rw [List.getElem?_map] at hx
    by_cases hi : i < n
    · rw [List.getElem?_range hi] at hx
      cases hx
      exact .int _
    · rw [List.getElem?_eq_none (by simp; omega)] at hx
      cases hx⟩
def signs (z : Str) : List Dt := z.cps.toList.map fun c => .str ⟨#[c]⟩
theorem itr_str {z : Str} (hz : z.cps.size ≤ sizeLine) : ItR K G (Its z) (signs z) :=
  ⟨by simpa [signs] using hz, fun _ => True, fun i H v H' => H' = H ∧ ∃ c, z.cps[i]? = some c ∧ v = .str ⟨#[c]⟩, by rw [show (signs z).length = z.cps.size by simp [signs]]; exact walk_str, fun _ _ => trivial, fun i H v H' x Gc r g S hx ⟨h1, c, h2, h3⟩ => by
    subst h1 h3
    refine ⟨Gc, S.grow, ?_⟩
    unfold signs at hx
    rw [List.getElem?_map] at hx
    have : z.cps.toList[i]? = some c := by simpa using h2
    rw [this] at hx
    cases hx
    exact .str _⟩
end
/-- a list, a tuple, a text -/
def dIter (te : PT0) : PTI := fun ρ P => te ρ fun d => match d with
  | .list xs => P xs
  | .tuple xs => P xs
  | _ => False
def dIterS (te : PT0) : PTI := fun ρ P => te ρ fun d => ∃ z, d = .str z ∧ z.cps.size ≤ sizeLine ∧ P (signs z)
section
variable {X : Cx} {tg e : Expr} {te : PT0} {pos p : Pos}
theorem one_fp {pins : List (Addr × Obj)} {σ : L2.St} {H : Hp} {s : Shared} (I : Inv X pins σ H s) : ∀ b ∈ [s.heap.objs.size], FpOk X pins H b := fun b hb => by
  cases hb with
  | head => exact I.fpOk (Nat.le_refl _) (I.hok.fresh (Nat.le_refl _))
  | tail _ h => cases h
theorem di_any (he : DE X e te) : DI X tg e (dIter te) := by
  refine ⟨fun pins s σ H R I ⟨r, G, ρ, P, E, p, q⟩ => ?_⟩
  refine thn (he.run pins s σ H (fun v H' => ∃ d G', (match d with | .list xs => P xs | .tuple xs => P xs | _ => False) ∧ Grow X.K r G H G' H' ∧ Rep X.K G' v d) I ⟨r, G, ρ, _, E, p, fun v d G' H' p' W R => ⟨d, G', p', W, R⟩⟩) fun u s' ⟨v, H', I', rv, d, G', p', W, R⟩ => ?_
  cases d <;> try exact p'.elim
  · cases R with
    | lst e1 r1 =>
      cases rv
      obtain ⟨its, _, pl, hz⟩ := I'.list (SqL.of (W.gh _ _ e1))
      refine wpAny_pyIter_list pl.isList ⟨_, [s'.heap.objs.size], _, _, H', rfl, I'.kept (t' := s'.toks) fun b o e => Heap.get?_push_of_some _ e, turn_list _ _, ⟨_, Heap.get?_push_size _ rfl, rfl, rfl⟩, one_fp I', q _ _ _ _ p' W (itr_list e1 r1 (r1.length ▸ hz))⟩
  · cases R with
    | tup e1 r1 =>
      cases rv
      obtain ⟨its, _, pl, hz⟩ := I'.tuple (same_seqP W.gh e1)
      refine wpAny_pyIter_tuple (show s'.heap.IsTuple _ its.toArray from pl) ⟨_, [s'.heap.objs.size], _, _, H', rfl, I'.kept (t' := s'.toks) fun b o e => Heap.get?_push_of_some _ e, turn_tuple _ _, ⟨_, Heap.get?_push_size _ rfl, rfl, rfl⟩, one_fp I', q _ _ _ _ p' W (itr_tup e1 r1 (r1.length ▸ hz))⟩
theorem di_str (he : DE X e te) : DI X tg e (dIterS te) := PI.weak (pi_str he) fun σ H R ⟨r, G, ρ, P, E, p, q⟩ => ⟨r, G, ρ, _, E, p, fun v d G1 H1 ⟨z, e1, hz, p1⟩ W1 R1 => by
  subst e1
  cases R1
  exact ⟨z, rfl, q _ _ _ _ p1 W1 (itr_str hz)⟩⟩
/-- range(b), range(a, b) -/
def dRng1 (t : PTA) : PTI := fun ρ P => t ρ fun xs => ∃ j : Int, xs = [.int j] ∧ (-1000000000 ≤ j ∧ j ≤ 16777216) ∧ P (rangeD 0 j.toNat)
def dRng2 (t : PTA) : PTI := fun ρ P => t ρ fun xs => ∃ i j : Int, xs = [.int i, .int j] ∧ (0 ≤ i ∧ i ≤ 16777216 ∧ -1000000000 ≤ j ∧ j ≤ 16777216) ∧ P (rangeD i (j - i).toNat)
theorem di_range1 {a : Expr} {t : PTA} (hm : X.mg "range" = none) (ha : DA X [a] t) (hg : Gl X "range" := by rfl) (hs : starEach [a] X.env = [(false, eval a X.env)] := by rfl) : DI X tg (.Call (.Name "range" p) [a] [] pos) (dRng1 t) :=
  PI.weak (pi_range1 hg hm ha hs) fun σ H R ⟨r, G, ρ, P, E, p, q⟩ => ⟨r, G, ρ, _, E, p, fun vs ds G1 H1 ⟨j, e1, hj, p1⟩ W1 R1 => by
    subst e1
    cases R1 with
    | cons h1 h2 =>
      cases h1; cases h2
      exact ⟨j, rfl, by omega, by omega, q _ _ _ _ p1 W1 (itr_range (by rw [sizeLine_eq]; omega))⟩⟩
theorem di_range2 {a b : Expr} {t : PTA} (hm : X.mg "range" = none) (ha : DA X [a, b] t) (hg : Gl X "range" := by rfl) (hs : starEach [a, b] X.env = [(false, eval a X.env), (false, eval b X.env)] := by rfl) (hs2 : starEach [b] X.env = [(false, eval b X.env)] := by rfl) :
    DI X tg (.Call (.Name "range" p) [a, b] [] pos) (dRng2 t) :=
  PI.weak (pi_range2 hg hm ha hs hs2) fun σ H R ⟨r, G, ρ, P, E, p, q⟩ => ⟨r, G, ρ, _, E, p, fun vs ds G1 H1 ⟨i, j, e1, hj, p1⟩ W1 R1 => by
    subst e1
    cases R1 with
    | cons h1 h2 =>
      cases h2 with
      | cons h2 h3 =>
        cases h1; cases h2; cases h3
        exact ⟨i, j, rfl, by omega, q _ _ _ _ p1 W1 (itr_range (by rw [sizeLine_eq]; omega))⟩⟩

/-! ### tests of a comprehension, the comprehension -/
def DTs (X : Cx) (ifs : List Expr) (t : PTT) : Prop := PTs X ifs (liftT X.K t)
def dYes : PTT := fun _ P => P true
theorem PTs.weak {X : Cx} {e : List Expr} {t u : TT} (h : PTs X e t) (w : ∀ σ H Q, u σ H Q → t σ H Q) : PTs X e u := ⟨fun pins s σ H Q I q => h.run pins s σ H Q I (w σ H Q q)⟩
theorem dts_nil : DTs X [] dYes := PTs.weak pts_nil fun σ H Q ⟨r, G, ρ, P, E, p, q⟩ => q _ _ _ p E.st.grow
theorem dts_one {c : Expr} {t : PTT} (h : DT X c t) : DTs X [c] t := pts_one h
/-- what a comprehension makes of the things walked -/
def lcP (g : PTG) (tt : PTT) (te : PT0) (ρ : List PV) : List Dt → List Dt → (List Dt → Prop) → Prop
  | [], acc, P => P acc
  | x :: xs, acc, P => g x ρ fun ρ1 => tt ρ1 fun k => if k = true then te ρ1 fun y => lcP g tt te ρ xs (acc ++ [y]) P else lcP g tt te ρ xs acc P
def dComp (ti : PTI) (g : PTG) (tt : PTT) (te : PT0) (vs : List Nat) : PT0 := fun ρ P => ti ρ fun xs => xs.length ≤ sizeLine → lcP g tt te (wipeP ρ vs) xs [] fun ys => P (.list ys)
theorem lift_comp {ti : PTI} {g : PTG} {tt : PTT} {te : PT0} {vs js : List Nat} (hj : ∀ j ∈ js, j ∈ vs) {σ : L2.St} {H : Hp} {Q : VK} (h : liftE X.K (dComp ti g tt te vs) σ H Q) :
    tLc (liftI X.K ti) (liftG X.K js g) (liftT X.K tt) (liftE X.K te) vs σ H Q := by
  obtain ⟨r, G, ρ, P, E, p, q⟩ := h
  refine ⟨r, G, ρ, _, E, p, fun J xs G1 H1 p1 W1 hJ D hD => ?_⟩
  obtain ⟨Gd, Y, wk, hG, hY⟩ := hJ.ex
  have p1 := p1 hJ.len
  have S1 : Start X.K r G1 H1 := W1.start E.st
  have E1 := E.grow W1
  have gD : G1 D = none := S1.gh.free hD
  have rD : r ≠ some D := S1.rowNe hD
  refine lc_it wk (fun i H => ∃ Gi acc ds, Grow X.K r G1 H1 Gi H ∧ Gi D = none ∧ H D = some (.lst acc) ∧ Reps X.K Gi acc ds ∧ ds.length ≤ i ∧ lcP g tt te (wipeP ρ vs) (xs.drop i) ds fun ys => P (.list ys))
    ⟨G1, [], [], S1.grow.off hD gD rD, gD, upd_same, .nil, Nat.zero_le _, by rw [List.drop_zero]; exact p1⟩ (fun i H _ ⟨Gi, _, _, W, _⟩ => ?_) (fun i x H H' hi ⟨Gi, acc, ds, W, gi, hd, R, hl, pp⟩ hy => ?_) (fun H ⟨Gi, acc, ds, W, gi, hd, R, hl, pp⟩ => ?_)
  · exact hG H (W.g.trans W.gh)
  · obtain ⟨Gc, Wc, Rx⟩ := hY i H x H' xs[i] Gi r W.g (W.start S1) (List.getElem?_eq_getElem hi) hy
    rw [List.drop_eq_getElem_cons hi] at pp
    refine ⟨r, Gc, wipeP ρ vs, xs[i], _, ((E1.grow W).grow Wc).wipe vs, Rx, pp, fun σ2 ρ2 p2 E2 Sx => ⟨wipe_twice hj (fun k hk => (Sx.other k hk).1) (Sx.len.trans (wipe_length σ vs)), r, Gc, ρ2, _, E2, p2, fun k G3 H3 p3 W3 => ?_⟩⟩
    have hd2 := Wc.h D _ rD hd
    have gi2 := Wc.y D _ hd gi
    have hd3 := W3.h D _ rD hd2
    have gi3 := W3.y D _ hd2 gi2
    cases k with
    | false => exact ⟨G3, acc, ds, (W.trans Wc).trans W3, gi3, hd3, R.mono (Wc.g.trans W3.g), Nat.le_succ_of_le hl, p3⟩
    | true =>
      refine iteT ⟨r, G3, ρ2, _, E2.grow W3, (if_pos rfl).mp p3, fun y d G4 H4 p4 W4 R4 => ?_⟩
      have hd4 := W4.h D _ rD hd3
      have gi4 := W4.y D _ hd3 gi3
      have hz := hJ.len
      have hal := R.length
      refine ⟨acc, hd4, by omega, G4, acc ++ [y], ds ++ [d], (((W.trans Wc).trans W3).trans W4).off hD gi4 rD, gi4, upd_same, (R.mono ((Wc.g.trans W3.g).trans W4.g)).snoc R4, by rw [List.length_append, List.length_singleton]; omega, p4⟩
  · rw [List.drop_length] at pp
    have pp : P (.list ds) := pp
    have W2 := W.freeze hD gi hd
    exact q _ _ _ _ pp (W1.trans W2) (.lst upd_same (R.mono (same_upd gi)))
theorem de_lc {elt tg iter : Expr} {ifs : List Expr} {scope : Scope} (own : List (Str × Nat)) {js : List Nat} {ti : PTI} {g : PTG} {tt : PTT} {te : PT0} {pos : Pos} (hc : X.calm = true) (hN : X.N.Nodup) (hi : DI X tg iter ti) (hg : ∀ (s : Shared) (H : Hp) (C : Addr) (cl : List (Str × Addr)) (fp : List Addr), DG (X.blk s H scope (compEnvC scope cl C X.env) fp) tg js g)
    (ht : ∀ (s : Shared) (H : Hp) (C : Addr) (cl : List (Str × Addr)) (fp : List Addr), DTs (X.blk s H scope (compEnvC scope cl C X.env) fp) ifs tt) (he : ∀ (s : Shared) (H : Hp) (C : Addr) (cl : List (Str × Addr)) (fp : List Addr), DE (X.blk s H scope (compEnvC scope cl C X.env) fp) elt te)
    (ok : blkC X.N X.env.scope scope own = true) (hj : ∀ j ∈ js, j ∈ own.map (·.2) := by decide) (hs : ∀ x, foldedSetIterable iter X.env x = pure x := by intro _; rfl) : DE X (.ListComp elt [⟨tg, iter, ifs, 0⟩] scope pos) (dComp ti g tt te (own.map (·.2))) :=
  PE.weak (pe_lc (g := liftG X.K js g) (tt := liftT X.K tt) (te := liftE X.K te) hc hN hi (blkOk_by ok) hg ht he hs) fun σ H Q h => lift_comp hj h
end
end PD
namespace PD
open PySem PySem.Spec PyProof.Rows L2

/-! ### what is handed to a def -/
def ArgR (K : Fg) (r : Option Addr) (G : Hp) (v : V) : PV → Prop
  | .d x => Rep K G v x
  | .row => ∃ a, v = .ref a ∧ r = some a
  | .scr ns => ∃ a, v = .ref a ∧ SqL K G a (ns.map V.int)
  | .ins C fs => ∃ a dx vs, v = .ref a ∧ G a = some (.ins C dx vs) ∧ RepF K G vs fs
  | .fz p => ∀ G', Same G G' → p K G' v
  | _ => False
theorem ArgR.mono {K : Fg} {r : Option Addr} {G G' : Hp} {v : V} {p : PV} (g : Same G G') (h : ArgR K r G v p) : ArgR K r G' v p := by
  cases p with
  | d x => exact Rep.mono g h
  | row => exact h
  | scr ns => obtain ⟨a, e, q⟩ := h; exact ⟨a, e, g.seq q⟩
  | un => exact h
  | own => exact h
  | rng => exact h
  | ins C fs => obtain ⟨a, dx, vs, e, q, f⟩ := h; exact ⟨a, dx, vs, e, g _ _ q, f.mono g⟩
  | obj => exact h
  | fz p => exact fun G2 g2 => h G2 (g.trans g2)
abbrev Args (K : Fg) (r : Option Addr) (G : Hp) : List V → List PV → Prop := Paired (ArgR K r G)
theorem Args.mono {K : Fg} {r : Option Addr} {G G' : Hp} (g : Same G G') : ∀ {vs : List V} {as : List PV}, Args K r G vs as → Args K r G' vs as
  | _, _, .nil => .nil
  | _, _, .cons h t => .cons (h.mono g) (Args.mono g t)
abbrev PTV := List PV → (PV → Prop) → Prop
abbrev PTAs := List PV → (List PV → Prop) → Prop
def liftV (K : Fg) (t : PTV) : TE := fun σ H Q => ∃ (r : Option Addr) (G : Hp) (ρ : List PV) (P : PV → Prop), EnvR K r G H σ ρ ∧ t ρ P ∧ ∀ v d G' H', P d → Grow K r G H G' H' → ArgR K r G' v d → Q v H'
def liftAs (K : Fg) (t : PTAs) : TA := fun σ H Q => ∃ (r : Option Addr) (G : Hp) (ρ : List PV) (P : List PV → Prop), EnvR K r G H σ ρ ∧ t ρ P ∧ ∀ vs ds G' H', P ds → Grow K r G H G' H' → Args K r G' vs ds → Q vs H'
def DV (X : Cx) (e : Expr) (t : PTV) : Prop := PE X e (liftV X.K t)
def DAs (X : Cx) (es : List Expr) (t : PTAs) : Prop := PA X es (liftAs X.K t)
def vE (t : PT0) : PTV := fun ρ P => t ρ fun x => P (.d x)
def vRow (i : Nat) : PTV := fun ρ P => ρ[i]? = some .row ∧ P .row
def vScr (i : Nat) : PTV := fun ρ P => ∃ ns, ρ[i]? = some (.scr ns) ∧ P (.scr ns)
def vNil : PTAs := fun _ P => P []
def vCons (t : PTV) (u : PTAs) : PTAs := fun ρ P => t ρ fun x => u ρ fun xs => P (x :: xs)
section
variable {X : Cx} {pos : Pos} {a : Expr} {ta : PT0}
theorem dv_e (h : DE X a ta) : DV X a (vE ta) := PE.weak h fun σ H Q ⟨r, G, ρ, P, E, p, q⟩ => ⟨r, G, ρ, _, E, p, fun v d G1 H1 p1 W1 R1 => q v (.d d) G1 H1 p1 W1 R1⟩
theorem dv_row (i : Nat) {x : Str} (hN : X.N[i]? = some x := by rfl) (hv : Vis X.env.scope x := by first | exact Or.inl rfl | exact Or.inr (Or.inl rfl) | exact Or.inr (Or.inr rfl)) (hd : (x == ("__debug__" : Str)) = false := by decide)
    (hcd : (x == ("__classdict__" : Str)) = false := by decide) : DV X (.Name x pos) (vRow i) := PE.weak (pe_var hN hv hd hcd) fun σ H Q ⟨r, G, ρ, P, E, ⟨e, p⟩, q⟩ => by
  obtain ⟨o, h1, a, rfl, h2⟩ := E.slot i _ e
  exact ⟨.ref a, h1, q _ .row G H p E.st.grow ⟨a, rfl, h2⟩⟩
theorem dv_scr (i : Nat) {x : Str} (hN : X.N[i]? = some x := by rfl) (hv : Vis X.env.scope x := by first | exact Or.inl rfl | exact Or.inr (Or.inl rfl) | exact Or.inr (Or.inr rfl)) (hd : (x == ("__debug__" : Str)) = false := by decide)
    (hcd : (x == ("__classdict__" : Str)) = false := by decide) : DV X (.Name x pos) (vScr i) := PE.weak (pe_var hN hv hd hcd) fun σ H Q ⟨r, G, ρ, P, E, ⟨ns, e, p⟩, q⟩ => by
  obtain ⟨o, h1, a, rfl, h2⟩ := E.slot i _ e
  exact ⟨.ref a, h1, q _ (.scr ns) G H p E.st.grow ⟨a, rfl, h2⟩⟩
theorem das_nil : DAs X [] vNil := PA.weak pa_nil fun σ H Q ⟨r, G, ρ, P, E, p, q⟩ => q [] [] G H p E.st.grow .nil
theorem das_cons {es : List Expr} {t : PTV} {u : PTAs} (ha : DV X a t) (hr : DAs X es u) (hs : starEach (a :: es) X.env = (false, eval a X.env) :: starEach es X.env := by rfl) : DAs X (a :: es) (vCons t u) :=
  PA.weak (pa_cons ha hr hs) fun σ H Q ⟨r, G, ρ, P, E, p, q⟩ => ⟨r, G, ρ, _, E, p, fun v x G1 H1 p1 W1 R1 => ⟨r, G1, ρ, _, E.grow W1, p1, fun vs xs G2 H2 p2 W2 R2 => q (v :: vs) (x :: xs) G2 H2 p2 (W1.trans W2) (.cons (R1.mono W2.g) R2)⟩⟩
end

/-! ### a def's promise by what its arguments say -/
abbrev PF := List PV → (Dt → Prop) → Prop
def liftF (K : Fg) (F : PF) : Sp := fun vs H Q _ => ∃ (r : Option Addr) (G : Hp) (as : List PV) (P : Dt → Prop), Start K r G H ∧ Args K r G vs as ∧ F as P ∧ ∀ v d G' H', P d → Grow K r G H G' H' → Rep K G' v d → Q v H'
def dCall (F : PF) (t : PTAs) : PT0 := fun ρ P => t ρ fun as => F as P
section
variable {X : Cx} {k : Nat} {f : Addr} {fd : FuncData} {ps : List Str} {F : PF} {x : Str} {p pos : Pos} {e : Expr} {es : List Expr} {t : PTAs}
theorem de_call (Fk : FnOk X.prog X.w X.K X.mg X.base CX0 k f fd ps (liftF X.K F)) (hr : Room k X.A) (hm : X.mg x = some (.ref f)) (hk : PySem.W.keepIn X.K (.ref f) = true) (hb : Binds X.K fd ps []) (ha : DAs X (e :: es) t) (hg : Gl X x := by rfl)
    (hdb : (x == ("__debug__" : Str)) = false := by decide) (he : starEach (e :: es) X.env = (false, eval e X.env) :: starEach es X.env := by rfl) (hpl : (backTo pos (starEach es X.env)).any (·.1) = false := by rfl) :
    DE X (.Call (.Name x p) (e :: es) [] pos) (dCall F t) := PE.weak (pe_call Fk hr hg hm hk hb .nil pass0 ha hdb he hpl) fun σ H Q ⟨r, G, ρ, P, E, p, q⟩ => ⟨r, G, ρ, _, E, p, fun vs as G1 H1 p1 W1 R1 => by
  show liftF X.K F (vs ++ []) H1 Q E0
  rw [List.append_nil]
  exact ⟨r, G1, as, P, W1.start E.st, R1, p1, fun v d G' H' p2 W2 R2 => q v d G' H' p2 (W1.trans W2) R2⟩⟩
end

/-! ### statements -/
structure PEnds where
  nx : List PV → Prop
  rt : Dt → Prop
  bk : List PV → Prop := fun _ => False
  ct : List PV → Prop := fun _ => False
abbrev PTS := PEnds → List PV → Prop
structure EnvS (K : Fg) (r0 : Option Addr) (G0 H0 : Hp) (r : Option Addr) (G H : Hp) (σ : L2.St) (ρ : List PV) : Prop where
  env : EnvR K r G H σ ρ
  gr : Grow K r0 G0 H0 G H
  rr : r = r0 ∨ ∃ a, r = some a ∧ H0 a = none
  rh : ∀ a, r0 = some a → ∃ o, H0 a = some o
  yg : ∀ (i : Nat) (a : Addr) (x : Dt), ρ[i]? = some (.own x) → σ[i]? = some (some (.ref a)) → H0 a = none
  yo : ∀ (i : Nat) (C a : Addr) (fs : List (Str × Fv)), ρ[i]? = some (.obj C a fs) → ∀ b ∈ a :: fps fs, H0 b = none
structure Post (K : Fg) (r0 : Option Addr) (G0 H0 : Hp) (P : PEnds) (Dn : Ends) : Prop where
  nx : ∀ r σ ρ G H, P.nx ρ → EnvS K r0 G0 H0 r G H σ ρ → Dn.nx σ H
  bk : ∀ r σ ρ G H, P.bk ρ → EnvS K r0 G0 H0 r G H σ ρ → Dn.bk σ H
  ct : ∀ r σ ρ G H, P.ct ρ → EnvS K r0 G0 H0 r G H σ ρ → Dn.ct σ H
  rt : ∀ v d G H, P.rt d → Grow K r0 G0 H0 G H → Rep K G v d → Dn.rt v H
def liftS (K : Fg) (t : PTS) : TS := fun Dn σ H => ∃ (r0 : Option Addr) (G0 H0 : Hp) (r : Option Addr) (G : Hp) (ρ : List PV) (P : PEnds), EnvS K r0 G0 H0 r G H σ ρ ∧ t P ρ ∧ Post K r0 G0 H0 P Dn
def DS (X : Cx) (st : Stmt) (t : PTS) : Prop := PS X st (liftS X.K t)
def DSs (X : Cx) (st : List Stmt) (t : PTS) : Prop := PSs X st (liftS X.K t)
section
variable {K : Fg} {r0 r : Option Addr} {G0 H0 G H G' H' : Hp} {σ σ' : L2.St} {ρ ρ' : List PV}
theorem EnvS.grown (E : EnvS K r0 G0 H0 r G H σ ρ) (W : Grow K r G H G' H') : Grow K r0 G0 H0 G' H' := by
  rcases E.rr with e | ⟨a, ea, ha⟩
  · subst e
    exact E.gr.trans W
  · subst ea
    have ne : ∀ b o, H0 b = some o → some a ≠ some b := fun b o hb z => by
      cases z; rw [ha] at hb; cases hb
    refine ⟨E.gr.g.trans W.g, fun b o n hb => W.h b o (ne b o hb) (E.gr.h b o n hb), W.gh, fun b o hb n => ?_, fun b z => ?_⟩
    · obtain ⟨o', hb'⟩ := E.gr.there hb
      exact W.y b o' hb' (E.gr.y b o hb n)
    · obtain ⟨o, hb⟩ := E.rh b z
      have q := E.gr.row b z
      obtain ⟨_, _, _, _, _, h1, _⟩ := id q
      exact q.at W.g ((W.h b _ (ne b o hb) h1).trans h1.symm)
theorem EnvS.grow (E : EnvS K r0 G0 H0 r G H σ ρ) (W : Grow K r G H G' H') : EnvS K r0 G0 H0 r G' H' σ ρ := ⟨E.env.grow W, E.grown W, E.rr, E.rh, E.yg, E.yo⟩
theorem EnvS.sets {js : List Nat} (E : EnvS K r0 G0 H0 r G H σ ρ) (S : Sets js σ ρ σ' ρ') (E' : EnvR K r G H σ' ρ') : EnvS K r0 G0 H0 r G H σ' ρ' := ⟨E', E.gr, E.rr, E.rh, fun i a x e1 e2 => by
  by_cases hi : i ∈ js
  · exact absurd e1 (S.d i x hi)
  · rw [(S.other i hi).1] at e2
    rw [(S.other i hi).2] at e1
    exact E.yg i a x e1 e2, fun i C a fs e => by
  by_cases hi : i ∈ js
  · exact absurd e (S.o i C a fs hi)
  · rw [(S.other i hi).2] at e
    exact E.yo i C a fs e⟩
end
section
variable {X : Cx} {st : Stmt} {rest body orelse : List Stmt} {t u : PTS} {e tg iter c : Expr} {te : PT0} {pos : Pos}
def sNext : PTS := fun P ρ => P.nx ρ
def sSeq (t u : PTS) : PTS := fun P ρ => t { P with nx := u P } ρ
theorem dss_nil : DSs X [] sNext := PSs.weak pss_nil fun Dn σ H ⟨r0, G0, H0, r, G, ρ, P, E, p, q⟩ => q.nx _ _ _ _ _ p E
theorem dss_cons (h1 : DS X st t) (h2 : DSs X rest u) : DSs X (st :: rest) (sSeq t u) := PSs.weak (pss_cons h1 h2) fun Dn σ H ⟨r0, G0, H0, r, G, ρ, P, E, p, q⟩ =>
  ⟨r0, G0, H0, r, G, ρ, _, E, p, ⟨fun r' σ' ρ' G' H' p' E' => ⟨r0, G0, H0, r', G', ρ', P, E', p', q⟩, q.bk, q.ct, q.rt⟩⟩
theorem dss_one (h1 : DS X st t) : DSs X [st] t := pss_one h1
theorem ds_pass : DS X (.Pass pos) sNext := PS.weak ps_pass fun Dn σ H ⟨r0, G0, H0, r, G, ρ, P, E, p, q⟩ => q.nx _ _ _ _ _ p E
def sBreak : PTS := fun P ρ => P.bk ρ
def sCont : PTS := fun P ρ => P.ct ρ
theorem ds_break : DS X (.Break pos) sBreak := PS.weak ps_break fun Dn σ H ⟨r0, G0, H0, r, G, ρ, P, E, p, q⟩ => q.bk _ _ _ _ _ p E
theorem ds_continue : DS X (.Continue pos) sCont := PS.weak ps_continue fun Dn σ H ⟨r0, G0, H0, r, G, ρ, P, E, p, q⟩ => q.ct _ _ _ _ _ p E
def sNever : PTS := fun _ _ => False
theorem ds_never : DS X st sNever := PS.weak ps_never fun Dn σ H ⟨r0, G0, H0, r, G, ρ, P, E, p, q⟩ => p
theorem ds_doc {x j pos'} : DS X (.Expr (.Constant (.str x) j pos) pos') sNext := PS.weak ps_doc fun Dn σ H ⟨r0, G0, H0, r, G, ρ, P, E, p, q⟩ => q.nx _ _ _ _ _ p E
def sDrop (te : PT0) : PTS := fun P ρ => te ρ fun _ => P.nx ρ
theorem ds_expr (he : DE X e te) (hs : swapsWith e none pos.line X.env = pure false := by rfl) : DS X (.Expr e pos) (sDrop te) := PS.weak (ps_expr he hs) fun Dn σ H ⟨r0, G0, H0, r, G, ρ, P, E, p, q⟩ =>
  ⟨r, G, ρ, _, E.env, p, fun v d G' H' p' W R => q.nx _ _ _ _ _ p' (E.grow W)⟩
def sIf (c : PTT) (t u : PTS) : PTS := fun P ρ => c ρ fun k => if k = true then t P ρ else u P ρ
theorem ds_if {tc : PTT} (hc : DT X c tc) (ha : DSs X body t) (hb : DSs X orelse u) : DS X (.If c body orelse pos) (sIf tc t u) := PS.weak (ps_if hc ha hb) fun Dn σ H ⟨r0, G0, H0, r, G, ρ, P, E, p, q⟩ =>
  ⟨r, G, ρ, _, E.env, p, fun k G' H' p' W => by
    cases k with
    | true => exact ⟨r0, G0, H0, r, G', ρ, P, E.grow W, p', q⟩
    | false => exact ⟨r0, G0, H0, r, G', ρ, P, E.grow W, p', q⟩⟩
/-- target = value, the value frozen -/
def sAsg (te : PT0) (g : PTG) : PTS := fun P ρ => te ρ fun x => g x ρ P.nx
theorem ds_asg {js : List Nat} {g : PTG} (he : DE X e te) (hg : DG X tg js g) (hs : swapsWithSole [tg] e pos.line X.env = pure false := by rfl) (hw : swappedStores [tg] e X.env = pure none := by rfl)
    (h1 : (assignEach [tg] X.env).map (·.2) = [assign tg X.env] := by rfl) : DS X (.Assign [tg] e pos) (sAsg te g) := PS.weak (ps_asg he hg hs hw h1) fun Dn σ H ⟨r0, G0, H0, r, G, ρ, P, E, p, q⟩ =>
  ⟨r, G, ρ, _, E.env, p, fun v x G' H' p' W R => ⟨r, G', ρ, x, _, E.env.grow W, R, p', fun σ' ρ' p2 E2 S2 => q.nx _ _ _ _ _ p2 ((E.grow W).sets S2 E2)⟩⟩
theorem ds_set (i : Nat) {x : Str} {pos' : Pos} (hN : X.N.Nodup) (he : DE X e te) (hi : X.N[i]? = some x := by rfl) (hx : Loc X.env.scope x := by first | exact Or.inl rfl | exact Or.inr rfl) (hs : swapsWith e (some (.Name x pos')) pos.line X.env = pure false := by rfl) (hf : X.fn x = true ∨ X.env.scope.names.lookup x = some .local := by first | exact .inl rfl | exact .inr rfl) :
    DS X (.Assign [.Name x pos'] e pos) (sAsg te (aName i)) := PS.weak (ps_set hN hi hx he hs hf) fun Dn σ H ⟨r0, G0, H0, r, G, ρ, P, E, p, q⟩ =>
  ⟨r, G, ρ, _, E.env, p, fun v x G' H' p' W R => q.nx _ _ _ _ _ p' ((E.grow W).sets (js := [i]) ⟨fun k hk => by
    have : i ≠ k := fun z => hk (by simp [z])
    exact ⟨List.getElem?_set_ne this, List.getElem?_set_ne this⟩, by simp, fun k y hk => by
    have : k = i := by simpa using hk
    subst this
    rw [List.getElem?_set]
    simp only [if_true]
    split <;> simp, fun k C a fs hk => by
    have : k = i := by simpa using hk
    subst this
    rw [List.getElem?_set]
    simp only [if_true]
    split <;> simp⟩ ((E.env.grow W).set R))⟩

/-! ### return: what is one's own is frozen -/
def frz : PV → PV
  | .own x => .d x
  | p => p
open Classical in
/-- the frozen heap with all that is one's own -/
noncomputable def allG (G H : Hp) (σ : L2.St) (ρ : List PV) : Hp := fun b => if ∃ (i : Nat) (x : Dt), ρ[i]? = some (.own x) ∧ σ[i]? = some (some (.ref b)) then H b else G b
def OwnAt (σ : L2.St) (ρ : List PV) (b : Addr) : Prop := ∃ (i : Nat) (x : Dt), ρ[i]? = some (.own x) ∧ σ[i]? = some (some (.ref b))
def IsDc (H : Hp) (d : Addr) : Prop := (∃ kvs, H d = some (.dK kvs)) ∨ ∃ kvs, H d = some (.dT kvs)
/-- some dicts are known from here on: they are read, never written -/
structure Known (ds : List Addr) (H H' : Hp) : Prop where
  out : ∀ b, b ∉ ds → H' b = H b
  inn : ∀ b, b ∈ ds → ∃ od u, H b = some u ∧ H' b = some (.frz od u)
theorem lock_all {X : Cx} {pins : List (Addr × Obj)} {σ : L2.St} {H : Hp} {s : Shared} (I : Inv X pins σ H s) : ∀ ds : List Addr, (∀ d ∈ ds, IsDc H d) → ∃ H', Inv X pins σ H' s ∧ Known ds H H'
  | [], _ => ⟨H, I, fun _ _ => rfl, fun b h => by simp at h⟩
  | d :: ds, h => by
    obtain ⟨H1, I1, k1, k2⟩ := lock_all I ds fun b hb => h b (List.mem_cons_of_mem _ hb)
    by_cases hd : d ∈ ds
    · exact ⟨H1, I1, fun b hb => k1 b fun z => hb (List.mem_cons_of_mem _ z), fun b hb => by
        rcases List.mem_cons.mp hb with rfl | hb
        · exact k2 b hd
        · exact k2 b hb⟩
    · obtain ⟨u, e, mu⟩ : ∃ u, H d = some u ∧ Mut (some u) := by
        rcases h d (by simp) with ⟨kvs, e⟩ | ⟨kvs, e⟩
        · exact ⟨_, e, trivial⟩
        · exact ⟨_, e, trivial⟩
      obtain ⟨od, I2⟩ := I1.lock (d := d) (u := u) ((k1 d hd).trans e) mu
      refine ⟨_, I2, fun b hb => ?_, fun b hb => ?_⟩
      · rw [List.mem_cons, not_or] at hb
        rw [upd_ne hb.1]
        exact k1 b hb.2
      · by_cases z : b = d
        · subst z
          exact ⟨od, u, e, upd_same⟩
        · rw [upd_ne z]
          rcases List.mem_cons.mp hb with y | hb
          · exact absurd y z
          · exact k2 b hb
theorem pe_known {X : Cx} {e : Expr} {t : TE} (h : PE X e t) : PE X e (fun σ H Q => ∃ ds : List Addr, (∀ d ∈ ds, IsDc H d) ∧ ∀ H', Known ds H H' → t σ H' Q) :=
  ⟨fun pins s σ H Q I ⟨ds, hd, q⟩ => by
    obtain ⟨H', I', k⟩ := lock_all I ds hd
    exact h.run pins s σ H' Q I' (q H' k)⟩
open Classical in
theorem own_list (H : Hp) (σ : L2.St) (ρ : List PV) : ∃ ds : List Addr, ∀ b, b ∈ ds ↔ OwnAt σ ρ b ∧ IsDc H b := by
  refine ⟨(σ.filterMap fun o => match o with | some (.ref a) => if OwnAt σ ρ a ∧ IsDc H a then some a else none | _ => none), fun b => ?_⟩
  rw [List.mem_filterMap]
  constructor
  · rintro ⟨o, _, e⟩
    split at e
    · split at e
      · rename_i h
        cases e
        exact h
      · cases e
    · cases e
  · rintro ⟨h1, h2⟩
    obtain ⟨i, x, e1, e2⟩ := id h1
    exact ⟨_, List.mem_of_getElem? e2, by simp only [if_pos (And.intro h1 h2)]⟩
theorem OwnR.frozen {K : Fg} {G G' H H' : Hp} {a : Addr} {d : Dt} {ds : List Addr} (h : OwnR K G H a d) (g : Same G G') (k : Known ds H H') (hd : IsDc H a → a ∈ ds) (hn : a ∈ ds → IsDc H a) (e : G' a = H' a) : Rep K G' (.ref a) d := by
  cases h with
  | lst h r =>
    have n : a ∉ ds := fun z => by
      rcases hn z with ⟨kvs, h1⟩ | ⟨kvs, h1⟩ <;> rw [h] at h1 <;> cases h1
    exact .lst ((e.trans (k.out a n)).trans h) (r.mono g)
  | dic h r =>
    obtain ⟨od, u, h1, h2⟩ := k.inn a (hd (.inl ⟨_, h⟩))
    rw [h] at h1; cases h1
    exact .dic (e.trans h2) (r.mono g)
  | dicT h r =>
    obtain ⟨od, u, h1, h2⟩ := k.inn a (hd (.inr ⟨_, h⟩))
    rw [h] at h1; cases h1
    exact .dicT (e.trans h2) (r.mono g)
theorem EnvS.freezeAll {K : Fg} {r0 r : Option Addr} {G0 H0 G H H' : Hp} {σ : L2.St} {ρ : List PV} {ds : List Addr} (E : EnvS K r0 G0 H0 r G H σ ρ) (hds : ∀ b, b ∈ ds ↔ OwnAt σ ρ b ∧ IsDc H b) (k : Known ds H H') : ∃ G', EnvS K r0 G0 H0 r G' H' σ (ρ.map frz) := by
  have gnone : ∀ b, OwnAt σ ρ b → G b = none := fun b ⟨i, x, e1, e2⟩ => by
    obtain ⟨c, e3, gn, _⟩ := E.env.getO e1
    rw [e2] at e3; cases e3
    exact gn
  have rnone : ∀ b, OwnAt σ ρ b → r ≠ some b := fun b ⟨i, x, e1, e2⟩ => by
    obtain ⟨c, e3, _, rn, _⟩ := E.env.getO e1
    rw [e2] at e3; cases e3
    exact rn
  have ynone : ∀ b, OwnAt σ ρ b → H0 b = none := fun b ⟨i, x, e1, e2⟩ => E.yg i b x e1 e2
  have out : ∀ b, ¬ OwnAt σ ρ b → H' b = H b := fun b n => k.out b fun z => n ((hds b).mp z).1
  have g : Same G (allG G H' σ ρ) := fun b o e => by
    unfold allG
    rw [if_neg]
    · exact e
    · intro z
      rw [gnone b z] at e
      cases e
  have gh : Same (allG G H' σ ρ) H' := fun b o e => by
    unfold allG at e
    by_cases h : ∃ (i : Nat) (x : Dt), ρ[i]? = some (.own x) ∧ σ[i]? = some (some (.ref b))
    · rw [if_pos h] at e
      exact e
    · rw [if_neg h] at e
      rw [out b h]
      exact E.env.st.gh _ _ e
  have frzO : ∀ {p : PV} {C a : Addr} {fs : List (Str × Fv)}, frz p = .obj C a fs → p = .obj C a fs := fun {p} {C a fs} e => by
    cases p <;> simp [frz] at e ⊢ <;> exact e
  have obAt : ∀ {i : Nat} {C a : Addr} {fs : List (Str × Fv)}, (ρ.map frz)[i]? = some (.obj C a fs) → ρ[i]? = some (.obj C a fs) := fun {i C a fs} e => by
    rw [List.getElem?_map] at e
    cases ep : ρ[i]? with
    | none => rw [ep] at e; cases e
    | some p0 =>
      rw [ep] at e
      rw [frzO (Option.some.inj e)]
  have obOut : ∀ {i : Nat} {C a : Addr} {fs : List (Str × Fv)}, ρ[i]? = some (.obj C a fs) → ∀ b ∈ a :: fps fs, ¬ OwnAt σ ρ b := fun {i C a fs} e b hb ⟨j, x, e1, e2⟩ => (E.env.apart i j C a fs e).1 x e1 b hb e2
  refine ⟨allG G H' σ ρ, ⟨⟨⟨gh, fun a e => ?_⟩, by simp [E.env.len], fun i p e => ?_, fun i j a x y e => ?_, fun i j C a fs e => ⟨fun x ex => ?_, fun D c gs eg => (E.env.apart i j C a fs (obAt e)).2 D c gs (obAt eg)⟩⟩, ⟨E.gr.g.trans g, fun b o n e => ?_, gh, fun b o e n => ?_, fun a e => ?_⟩, E.rr, E.rh, fun i a x e => ?_, fun i C a fs e => E.yo i C a fs (obAt e)⟩⟩
  · obtain ⟨h1, h2⟩ := E.env.st.row a e
    refine ⟨?_, h2.at g (out a fun z => rnone a z e)⟩
    unfold allG
    rw [if_neg]
    · exact h1
    · intro z
      exact rnone a z e
  · rw [List.getElem?_map] at e
    cases ep : ρ[i]? with
    | none => rw [ep] at e; cases e
    | some p0 =>
      rw [ep] at e
      have e : frz p0 = p := Option.some.inj e
      subst e
      obtain ⟨o, h1, h2⟩ := E.env.slot i p0 ep
      refine ⟨o, h1, ?_⟩
      cases p0 with
      | un => trivial
      | d x =>
        obtain ⟨v, rfl, h2⟩ := h2
        exact ⟨v, rfl, h2.mono g⟩
      | own x =>
        obtain ⟨a, rfl, ga, ne, h2⟩ := h2
        refine ⟨.ref a, rfl, h2.frozen g k (fun hk => (hds a).mpr ⟨⟨i, x, ep, h1⟩, hk⟩) (fun z => ((hds a).mp z).2) ?_⟩
        unfold allG
        rw [if_pos ⟨i, x, ep, h1⟩]
      | row => exact h2
      | scr ns =>
        obtain ⟨a, rfl, h2⟩ := h2
        exact ⟨a, rfl, g.seq h2⟩
      | rng lo hi =>
        obtain ⟨a, rfl, h2⟩ := h2
        exact ⟨a, rfl, g _ _ h2⟩
      | ins C fs =>
        obtain ⟨a, dx, vs, rfl, h2, h3⟩ := h2
        exact ⟨a, dx, vs, rfl, g _ _ h2, h3.mono g⟩
      | obj C a fs =>
        obtain ⟨rfl, h2, h3⟩ := h2
        refine ⟨rfl, h2.at g fun b hb => out b (obOut ep b hb), fun b hb => ⟨?_, (h3 b hb).2⟩⟩
        unfold allG
        rw [if_neg]
        · exact (h3 b hb).1
        · exact obOut ep b hb
      | fz p =>
        obtain ⟨v, rfl, h2⟩ := h2
        exact ⟨v, rfl, fun G2 g2 => h2 G2 (g.trans g2)⟩
  · rw [List.getElem?_map] at e
    cases ep : ρ[i]? with
    | none => rw [ep] at e; cases e
    | some p0 =>
      rw [ep] at e
      cases p0 <;> cases e
  · rw [List.getElem?_map] at ex
    cases ep : ρ[j]? with
    | none => rw [ep] at ex; cases ex
    | some p0 =>
      rw [ep] at ex
      cases p0 <;> cases ex
  · rw [out b fun z => by rw [ynone b z] at e; cases e]
    exact E.gr.h b o n e
  · unfold allG
    rw [if_neg]
    · exact E.gr.y b o e n
    · intro z
      rw [ynone b z] at e
      cases e
  · refine (E.gr.row a e).at g (out a fun z => ?_)
    obtain ⟨o, q⟩ := E.rh a e
    rw [ynone a z] at q; cases q
  · rw [List.getElem?_map] at e
    cases ep : ρ[i]? with
    | none => rw [ep] at e; cases e
    | some p0 =>
      rw [ep] at e
      cases p0 <;> cases e
def sRet (te : PT0) : PTS := fun P ρ => te (ρ.map frz) P.rt
theorem ds_ret (he : DE X e te) : DS X (.Return (some e) pos) (sRet te) := PS.weak (ps_ret (pe_known he)) fun Dn σ H ⟨r0, G0, H0, r, G, ρ, P, E, p, q⟩ => by
  obtain ⟨ds, hds⟩ := own_list H σ ρ
  refine ⟨ds, fun d hd => ((hds d).mp hd).2, fun H' k => ?_⟩
  obtain ⟨G1, E1⟩ := E.freezeAll hds k
  exact ⟨r, G1, _, _, E1.env, p, fun v d G' H' p' W R => q.rt v d G' H' p' (E1.grown W) R⟩
def sRetN : PTS := fun P _ => P.rt .none
theorem ds_retN : DS X (.Return none pos) sRetN := PS.weak ps_retN fun Dn σ H ⟨r0, G0, H0, r, G, ρ, P, E, p, q⟩ => q.rt .non .none G H p E.gr .non
end

/-! ### a def by its body -/
def startP (N : List Str) (as : List PV) : List PV := as ++ List.replicate (N.length - as.length) .un
theorem Args.get {K : Fg} {r : Option Addr} {G : Hp} : ∀ {vs : List V} {as : List PV} {i : Nat} {p : PV}, Args K r G vs as → as[i]? = some p → ∃ v, vs[i]? = some v ∧ ArgR K r G v p
  | _, _, _, _, .nil, e => by simp at e
  | _, _, 0, _, .cons h _, e => by simp at e; subst e; exact ⟨_, rfl, h⟩
  | _, _, i + 1, _, .cons _ t, e => by
    obtain ⟨v, h1, h2⟩ := Args.get (i := i) t (by simpa using e)
    exact ⟨v, by simpa using h1, h2⟩
theorem env_start {K : Fg} {r : Option Addr} {G H : Hp} {N : List Str} {vs : List V} {as : List PV} (S : Start K r G H) (A : Args K r G vs as) : EnvS K r G H r G H (L2.start N vs) (startP N as) := by
  have hl : vs.length = as.length := Paired.length A
  refine ⟨⟨S, by simp [L2.start, startP, hl], fun i p e => ?_, fun i j a x y e => ?_, fun i j C a fs e => ?_⟩, S.grow, .inl rfl, fun a e => by obtain ⟨_, _, _, _, _, _, h, _⟩ := S.row a e; exact ⟨_, h⟩, fun i a x e => ?_, fun i C a fs e => ?_⟩
  · unfold startP at e
    unfold L2.start
    by_cases hi : i < as.length
    · rw [List.getElem?_append_left hi] at e
      obtain ⟨v, h1, h2⟩ := A.get e
      refine ⟨some v, by rw [List.getElem?_append_left (by simpa [hl] using hi), List.getElem?_map, h1]; rfl, ?_⟩
      cases p with
      | un => trivial
      | d x => exact ⟨v, rfl, h2⟩
      | own x => exact h2.elim
      | row => obtain ⟨a, rfl, h2⟩ := h2; exact ⟨a, rfl, h2⟩
      | scr ns => obtain ⟨a, rfl, h2⟩ := h2; exact ⟨a, rfl, h2⟩
      | rng lo hi => exact h2.elim
      | ins C fs => obtain ⟨a, dx, vs, rfl, h2⟩ := h2; exact ⟨a, dx, vs, rfl, h2⟩
      | obj C a fs => exact h2.elim
      | fz p => exact ⟨v, rfl, h2⟩
    · rw [List.getElem?_append_right (by omega), List.getElem?_replicate] at e
      split at e
      · cases e
        refine ⟨none, ?_, trivial⟩
        rw [List.getElem?_append_right (by simp; omega), List.getElem?_replicate, if_pos (by simpa [hl] using ‹_›)]
      · cases e
  all_goals
    unfold startP at e
    by_cases hi : i < as.length
    · rw [List.getElem?_append_left hi] at e
      obtain ⟨v, h1, h2⟩ := A.get e
      exact h2.elim
    · rw [List.getElem?_append_right (by omega), List.getElem?_replicate] at e
      split at e <;> cases e
section
variable {P : Program} {w : World} {K : Fg} {mg : Str → Option Value} {base : Heap}
theorem fd_ok {x qual : Str} {st : Stmt} {f : Addr} {fd : FuncData} {N ps : List Str} {k : Nat} (F : PF) (Fu : Fun K x qual st f fd) (S : FnScope N ps (defScope st)) (len : ∀ as P, F as P → as.length = ps.length)
    (body : ∀ (cdv : Value) (A : Around) (outer : List Env) (s : Shared) (H : Hp) (E : XK), Room k (A.deeper (envOfC qual (defScope st) s.heap.objs.size f cdv)) →
      ∃ t, DSs (cxOf CX0 P w K mg base N qual (defScope st) f cdv A outer s H E).nox (defBody st) t ∧ ∀ as Q, F as Q → t { nx := fun _ => Q .none, rt := Q } (startP N as)) : FnOk P w K mg base CX0 (k + 1) f fd ps (liftF K F) := by
  refine Fu.ok S (fun vs H Q E ⟨r, G, as, P, _, A, p, _⟩ => (Paired.length A).trans (len as P p)) fun cdv A outer s H vs Q E hr ⟨r, G, as, P, S1, R, p, q⟩ => ?_
  obtain ⟨t, ht, hp⟩ := body cdv A outer s H E hr
  exact ⟨liftS K t, ht, r, G, H, r, G, startP N as, _, env_start S1 R, hp as P p, ⟨fun r' σ' ρ' G' H' p' E' => q .non .none G' H' p' E'.gr .non, fun _ _ _ _ _ z => z.elim, fun _ _ _ _ _ z => z.elim, fun v d G' H' p' W R => q v d G' H' p' W R⟩⟩
end
end PD
namespace PD
open PySem PySem.Spec PyProof.Rows L2
theorem dss_never {X : Cx} {sts : List Stmt} : DSs X sts sNever := PSs.weak pss_never fun Dn σ H ⟨r0, G0, H0, r, G, ρ, P, E, p, q⟩ => p
/-- a def that is never called -/
theorem fn_never {P : Program} {w : World} {K : Fg} {mg : Str → Option Value} {base : Heap} {k : Nat} {f : Addr} {fd : FuncData} {ps : List Str} : FnOk P w K mg base CX0 k f fd ps (liftF K fun _ _ => False) :=
  ⟨fun vs H Q E ⟨_, _, _, _, _, _, p, _⟩ => p.elim, fun A outer s H args us vs Q E hr e hb hv ⟨_, _, _, _, _, _, p, _⟩ => p.elim⟩
end PD
namespace PD
open PySem PySem.Spec PyProof.Rows L2

section
variable {K : Fg} {r0 r : Option Addr} {G0 H0 G H G' H' : Hp} {σ σ' : L2.St} {ρ ρ' : List PV}
theorem get_set_own {ρ : List PV} {i j : Nat} {p : PV} {x : Dt} (e : (ρ.set i p)[j]? = some (.own x)) : (j = i ∧ p = .own x) ∨ (j ≠ i ∧ ρ[j]? = some (.own x)) := by
  by_cases h : j = i
  · subst h
    rw [List.getElem?_set] at e
    simp only [if_true] at e
    split at e
    · cases e; exact .inl ⟨rfl, rfl⟩
    · cases e
  · rw [List.getElem?_set_ne (Ne.symm h)] at e
    exact .inr ⟨h, e⟩
theorem get_set_obj {ρ : List PV} {i j : Nat} {p : PV} {C a : Addr} {fs : List (Str × Fv)} (e : (ρ.set i p)[j]? = some (.obj C a fs)) : (j = i ∧ p = .obj C a fs) ∨ (j ≠ i ∧ ρ[j]? = some (.obj C a fs)) := by
  by_cases h : j = i
  · subst h
    rw [List.getElem?_set] at e
    simp only [if_true] at e
    split at e
    · cases e; exact .inl ⟨rfl, rfl⟩
    · cases e
  · rw [List.getElem?_set_ne (Ne.symm h)] at e
    exact .inr ⟨h, e⟩
theorem set_not_obj {ρ : List PV} {i j : Nat} {p : PV} {C a : Addr} {fs : List (Str × Fv)} (e : (ρ.set i p)[j]? = some (.obj C a fs)) (n : ∀ C a fs, p ≠ .obj C a fs) : j ≠ i ∧ ρ[j]? = some (.obj C a fs) := by
  rcases get_set_obj e with ⟨_, h⟩ | h
  · exact absurd h (n _ _ _)
  · exact h
/-- a young object becomes one's own, in slot i -/
theorem EnvS.take {p : Addr} {o : HO} {x : Dt} {i : Nat} (E : EnvS K r0 G0 H0 r G H σ ρ) (hp : H p = none) (ho : OwnR K G (upd H p o) p x) (hi : i < ρ.length) : EnvS K r0 G0 H0 r G (upd H p o) (σ.set i (some (.ref p))) (ρ.set i (.own x)) := by
  have S := E.env.st
  have gp : G p = none := S.gh.free hp
  have rp : r ≠ some p := S.rowNe hp
  have W := S.lay0 (o := o) hp
  have E1 := E.grow W
  refine ⟨⟨E1.env.st, by simp [E.env.len], fun j q e => ?_, fun j k a x' y' e1 e2 e3 e4 => ?_, fun j k C a fs e => ?_⟩, E1.gr, E.rr, E.rh, fun j a y e1 e2 => ?_, fun j C a fs e => E.yo j C a fs (set_not_obj e fun _ _ _ => by simp).2⟩
  · by_cases hj : j = i
    · subst hj
      rw [List.getElem?_set_self hi] at e
      cases e
      exact ⟨_, List.getElem?_set_self (by rw [E.env.len]; exact hi), p, rfl, gp, rp, ho⟩
    · rw [List.getElem?_set_ne (Ne.symm hj)] at e ⊢
      exact E1.env.slot j q e
  · have other : ∀ {j : Nat} {z : Dt}, j ≠ i → ρ[j]? = some (.own z) → σ[j]? = some (some (.ref a)) → a ≠ p := fun {j z} hj e1 e2 => by
      obtain ⟨b, h1, _, _, h2⟩ := E.env.getO e1
      rw [e2] at h1
      cases h1
      obtain ⟨o, h3⟩ := h2.some
      exact ne_of_none h3 hp
    have mine : ∀ {j : Nat}, j = i → (σ.set i (some (V.ref p)))[j]? = some (some (.ref a)) → a = p := fun {j} hj e => by
      subst hj
      rw [List.getElem?_set_self (by rw [E.env.len]; exact hi)] at e
      cases e; rfl
    rcases get_set_own e1 with ⟨h1, _⟩ | ⟨h1, f1⟩
    · rcases get_set_own e2 with ⟨h2, _⟩ | ⟨h2, f2⟩
      · rw [h1, h2]
      · rw [List.getElem?_set_ne (Ne.symm h2)] at e4
        exact absurd (mine h1 e3) (other h2 f2 e4)
    · rcases get_set_own e2 with ⟨h2, _⟩ | ⟨h2, f2⟩
      · rw [List.getElem?_set_ne (Ne.symm h1)] at e3
        exact absurd (mine h2 e4) (other h1 f1 e3)
      · rw [List.getElem?_set_ne (Ne.symm h1)] at e3
        rw [List.getElem?_set_ne (Ne.symm h2)] at e4
        exact E.env.dist j k a x' y' f1 f2 e3 e4
  · obtain ⟨j1, j2⟩ := set_not_obj e fun _ _ _ => by simp
    refine ⟨fun x ex b hb => ?_, fun D c gs eg => (E.env.apart j k C a fs j2).2 D c gs (set_not_obj eg fun _ _ _ => by simp).2⟩
    rcases get_set_own ex with ⟨h1, _⟩ | ⟨h1, f1⟩
    · subst h1
      rw [List.getElem?_set_self (by rw [E.env.len]; exact hi)]
      intro z
      cases z
      obtain ⟨o, _, _, q, _⟩ := E.env.slot j _ j2
      obtain ⟨u, hu⟩ := q.there p hb
      rw [hp] at hu; cases hu
    · rw [List.getElem?_set_ne (Ne.symm h1)]
      exact (E.env.apart j k C a fs j2).1 x f1 b hb
  · rcases get_set_own e1 with ⟨h1, _⟩ | ⟨h1, f1⟩
    · subst h1
      rw [List.getElem?_set_self (by rw [E.env.len]; exact hi)] at e2
      cases e2
      cases q : H0 p with
      | none => rfl
      | some u =>
        exfalso
        by_cases hr : r0 = some p
        · obtain ⟨_, _, _, _, _, h2, _⟩ := E.gr.row p hr
          rw [hp] at h2; cases h2
        · rw [E.gr.h p u hr q] at hp; cases hp
    · rw [List.getElem?_set_ne (Ne.symm h1)] at e2
      exact E.yg j a y f1 e2
/-- what is one's own is changed -/
theorem EnvS.put {a : Addr} {o : HO} {x y : Dt} {i : Nat} (E : EnvS K r0 G0 H0 r G H σ ρ) (e : ρ[i]? = some (.own x)) (ea : σ[i]? = some (some (.ref a))) (ho : OwnR K G (upd H a o) a y) : EnvS K r0 G0 H0 r G (upd H a o) σ (ρ.set i (.own y)) := by
  obtain ⟨b, h1, ga, ra, h2⟩ := E.env.getO e
  rw [ea] at h1
  cases h1
  have hi : i < ρ.length := (List.getElem?_eq_some_iff.mp e).1
  have ya := E.yg i a x e ea
  have rowOk : ∀ c, r = some c → (upd H a o) c = H c := fun c ec => upd_ne fun z => ra (z ▸ ec)
  refine ⟨⟨⟨fun b u q => ?_, fun c ec => ?_⟩, by simp [E.env.len], fun j q eq => ?_, fun j k c x' y' e1 e2 e3 e4 => ?_, fun j k C c fs ej => ?_⟩, ⟨E.gr.g, fun b u n q => ?_, fun b u q => ?_, E.gr.y, fun c ec => ?_⟩, E.rr, E.rh, fun j c z e1 e2 => ?_, fun j C c fs ej => E.yo j C c fs (set_not_obj ej fun _ _ _ => by simp).2⟩
  · rw [upd_ne (ne_of_none q ga)]
    exact E.env.st.gh _ _ q
  · obtain ⟨q1, q2⟩ := E.env.st.row c ec
    exact ⟨q1, q2.at (Same.refl _) (rowOk c ec)⟩
  · by_cases hj : j = i
    · subst hj
      rw [List.getElem?_set_self hi] at eq
      cases eq
      exact ⟨_, ea, a, rfl, ga, ra, ho⟩
    · rw [List.getElem?_set_ne (Ne.symm hj)] at eq
      obtain ⟨o', q1, q2⟩ := E.env.slot j q eq
      refine ⟨o', q1, ?_⟩
      cases q with
      | un => trivial
      | d x => exact q2
      | own z =>
        obtain ⟨c, rfl, gc, rc, q3⟩ := q2
        have ne : c ≠ a := fun z' => by
          subst z'
          exact hj (E.env.dist j i c z x eq e q1 ea)
        exact ⟨c, rfl, gc, rc, q3.at (Same.refl _) (upd_ne ne)⟩
      | row => exact q2
      | scr ns => exact q2
      | rng lo hi => exact q2
      | ins C fs => exact q2
      | obj C c fs =>
        obtain ⟨rfl, q3, q4⟩ := q2
        refine ⟨rfl, q3.at (Same.refl _) fun b hb => upd_ne fun z => ?_, q4⟩
        subst z
        exact (E.env.apart j i C c fs eq).1 x e b hb ea
      | fz p => exact q2
  · rcases get_set_own e1 with ⟨g1, _⟩ | ⟨g1, f1⟩
    · rcases get_set_own e2 with ⟨g2, _⟩ | ⟨g2, f2⟩
      · rw [g1, g2]
      · subst g1
        exact E.env.dist j k c x y' e f2 e3 e4
    · rcases get_set_own e2 with ⟨g2, _⟩ | ⟨g2, f2⟩
      · subst g2
        exact E.env.dist j k c x' x f1 e e3 e4
      · exact E.env.dist j k c x' y' f1 f2 e3 e4
  · obtain ⟨j1, j2⟩ := set_not_obj ej fun _ _ _ => by simp
    refine ⟨fun z ez b hb => ?_, fun D d gs eg => (E.env.apart j k C c fs j2).2 D d gs (set_not_obj eg fun _ _ _ => by simp).2⟩
    rcases get_set_own ez with ⟨h1, _⟩ | ⟨h1, f1⟩
    · subst h1
      exact (E.env.apart j k C c fs j2).1 x e b hb
    · exact (E.env.apart j k C c fs j2).1 z f1 b hb
  · rw [upd_ne (ne_of_none q ya)]
    exact E.gr.h b u n q
  · rw [upd_ne (ne_of_none q ga)]
    exact E.gr.gh _ _ q
  · have : c ≠ a := fun z => by
      subst z
      obtain ⟨_, h⟩ := E.rh c ec
      rw [ya] at h; cases h
    exact (E.gr.row c ec).at (Same.refl _) (upd_ne this)
  · rcases get_set_own e1 with ⟨g1, _⟩ | ⟨g1, f1⟩
    · subst g1
      exact E.yg j c x e e2
    · exact E.yg j c z f1 e2
end

section
variable {X : Cx} {st : Stmt} {rest body orelse : List Stmt} {t u tb : PTS} {e tg iter c : Expr} {te ty tv : PT0} {pos pos' : Pos} {es : List Expr}
/-- x = [..], x = [..] * n, x = {}: one's own from here on -/
def sOwnL (i : Nat) (ta : PTA) : PTS := fun P ρ => i < ρ.length ∧ ta ρ fun xs => xs.length ≤ sizeLine ∧ P.nx (ρ.set i (.own (.list xs)))
theorem ds_ownL (i : Nat) {x : Str} {ta : PTA} {p2 : Pos} (hN : X.N.Nodup) (ha : DA X es ta) (hi : X.N[i]? = some x := by rfl) (hx : Loc X.env.scope x := by first | exact Or.inl rfl | exact Or.inr rfl) (hs : swapsWith (.List es p2) (some (.Name x pos')) pos.line X.env = pure false := by rfl)
    (hf : X.fn x = true ∨ X.env.scope.names.lookup x = some .local := by first | exact .inl rfl | exact .inr rfl) : DS X (.Assign [.Name x pos'] (.List es p2) pos) (sOwnL i ta) :=
  PS.weak (ps_set hN hi hx (pe_lst ha) hs hf) fun Dn σ H ⟨r0, G0, H0, r, G, ρ, P, E, ⟨hi, p⟩, q⟩ => ⟨r, G, ρ, _, E.env, p, fun vs xs G' H' p' W R => ⟨by rw [R.length]; exact p'.1, fun c hc =>
    q.nx _ _ _ _ _ p'.2 ((E.grow W).take hc (.lst upd_same R) hi)⟩⟩
def sOwnR (i : Nat) (ta : PTA) (tn : PT0) : PTS := fun P ρ => i < ρ.length ∧ ta ρ fun xs => xs.length ≤ sizeLine ∧ tn ρ fun y => ∃ k, y = .int k ∧ (-(2 ^ 63) ≤ k ∧ k < 2 ^ 63 ∧ xs.length * k.toNat ≤ sizeLine) ∧ P.nx (ρ.set i (.own (.list (List.replicate k.toNat xs).flatten)))
theorem ds_ownR (i : Nat) {x : Str} {ta : PTA} {p2 p3 : Pos} {n : Expr} {tn : PT0} (hN : X.N.Nodup) (ha : DA X es ta) (hn : DE X n tn) (hi : X.N[i]? = some x := by rfl) (hx : Loc X.env.scope x := by first | exact Or.inl rfl | exact Or.inr rfl) (hs : swapsWith (.BinOp (.List es p2) .Mult n p3) (some (.Name x pos')) pos.line X.env = pure false := by rfl)
    (hf : X.fn x = true ∨ X.env.scope.names.lookup x = some .local := by first | exact .inl rfl | exact .inr rfl) : DS X (.Assign [.Name x pos'] (.BinOp (.List es p2) .Mult n p3) pos) (sOwnR i ta tn) :=
  PS.weak (ps_set hN hi hx (pe_op op_rep (pe_lst ha) hn) hs hf) fun Dn σ H ⟨r0, G0, H0, r, G, ρ, P, E, ⟨hi, p⟩, q⟩ => ⟨r, G, ρ, _, E.env, p, fun vs xs G' H' p' W R => ⟨by rw [R.length]; exact p'.1, fun l hl => by
    have E1 := E.grow W
    have W0 := E1.env.st.lay0 (o := .lst vs) hl
    have rl := E1.env.st.rowNe hl
    refine ⟨r, G', ρ, _, E1.env.grow W0, p'.2, fun v y G2 H2 ⟨k, ey, ⟨b1, b2, b3⟩, p2⟩ W2 R2 => ?_⟩
    subst ey
    cases R2
    refine ⟨l, k, vs, rfl, rfl, W2.h l _ rl upd_same, b1, b2, by rw [R.length]; exact b3, fun c hc => ?_⟩
    exact q.nx _ _ _ _ _ p2 (((E1.grow W0).grow W2).take hc (.lst upd_same ((R.mono W2.g).rep _)) hi)⟩⟩
def sOwnK (i : Nat) : PTS := fun P ρ => i < ρ.length ∧ P.nx (ρ.set i (.own (.dict [])))
theorem ds_ownK (i : Nat) {x : Str} {p2 : Pos} (hN : X.N.Nodup) (hi : X.N[i]? = some x := by rfl) (hx : Loc X.env.scope x := by first | exact Or.inl rfl | exact Or.inr rfl) (hs : swapsWith (.Dict [] [] p2) (some (.Name x pos')) pos.line X.env = pure false := by rfl)
    (hf : X.fn x = true ∨ X.env.scope.names.lookup x = some .local := by first | exact .inl rfl | exact .inr rfl) : DS X (.Assign [.Name x pos'] (.Dict [] [] p2) pos) (sOwnK i) :=
  PS.weak (ps_set hN hi hx pe_dnewK hs hf) fun Dn σ H ⟨r0, G0, H0, r, G, ρ, P, E, ⟨hi, p⟩, q⟩ => fun c hc => q.nx _ _ _ _ _ p (E.take hc (.dic upd_same .nil) hi)
/-- x = [.. for ..] on one line -/
theorem ds_setLc (i : Nat) {y : Str} {py : Pos} {elt : Expr} {ifs : List Expr} {scope : Scope} (own : List (Str × Nat)) {js : List Nat} {ti : PTI} {g : PTG} {tt : PTT} {pos spos : Pos} (hc : X.calm = true) (hN : X.N.Nodup) (hi : DI X tg iter ti)
    (hg : ∀ (s : Shared) (H : Hp) (C : Addr) (cl : List (Str × Addr)) (fp : List Addr), DG (X.blk s H scope (compEnvC scope cl C X.env) fp) tg js g) (ht : ∀ (s : Shared) (H : Hp) (C : Addr) (cl : List (Str × Addr)) (fp : List Addr), DTs (X.blk s H scope (compEnvC scope cl C X.env) fp) ifs tt)
    (he : ∀ (s : Shared) (H : Hp) (C : Addr) (cl : List (Str × Addr)) (fp : List Addr), DE (X.blk s H scope (compEnvC scope cl C X.env) fp) elt te) (ok : blkC X.N X.env.scope scope own = true) (hsw : swapsWith (.ListComp elt [⟨tg, iter, ifs, 0⟩] scope pos) (some (.Name y py)) spos.line X.env = pure true)
    (hy : X.N[i]? = some y := by rfl) (hyl : X.env.scope.names.lookup y = some .local := by rfl) (hj : ∀ j ∈ js, j ∈ own.map (·.2) := by decide) (hs : ∀ x, foldedSetIterable iter X.env x = pure x := by intro _; rfl) :
    DS X (.Assign [.Name y py] (.ListComp elt [⟨tg, iter, ifs, 0⟩] scope pos) spos) (sAsg (dComp ti g tt te (own.map (·.2))) (aName i)) :=
  PS.weak (ps_setLc (g := liftG X.K js g) (tt := liftT X.K tt) (te := liftE X.K te) hc hN hy hyl hsw hi (blkOk_by ok) hg ht he hs) fun Dn σ H ⟨r0, G0, H0, r, G, ρ, P, E, p, q⟩ =>
    lift_comp hj ⟨r, G, ρ, _, E.env, p, fun v x G' H' p' W R => q.nx _ _ _ _ _ p' ((E.grow W).sets (js := [i]) ⟨fun k hk => by
      have : i ≠ k := fun z => hk (by simp [z])
      exact ⟨List.getElem?_set_ne this, List.getElem?_set_ne this⟩, by simp, fun k y hk => by
      have : k = i := by simpa using hk
      subst this
      rw [List.getElem?_set]
      simp only [if_true]
      split <;> simp, fun k C a fs hk => by
      have : k = i := by simpa using hk
      subst this
      rw [List.getElem?_set]
      simp only [if_true]
      split <;> simp⟩ ((E.env.grow W).set R))⟩
/-- x += e, x an int or a text -/
def sAug (i : Nat) (f : F2) (te : PT0) : PTS := fun P ρ => ∃ x, ρ[i]? = some (.d x) ∧ te ρ fun y => f x y fun z => P.nx (ρ.set i (.d z))
theorem ds_aug (i : Nat) {x : Str} {op : Operator} {f : F2} (ho : DO X (inplaceOp op) f) (hN : X.N.Nodup) (he : DE X e te) (hi : X.N[i]? = some x := by rfl) (hx : Loc X.env.scope x := by first | exact Or.inl rfl | exact Or.inr rfl) (hf : X.fn x = true ∨ X.env.scope.names.lookup x = some .local := by first | exact .inl rfl | exact .inr rfl) :
    DS X (.AugAssign (.Name x pos') op e pos) (sAug i f te) := PS.weak (ps_aug hN hi hx he ho hf) fun Dn σ H ⟨r0, G0, H0, r, G, ρ, P, E, ⟨x, ex, p⟩, q⟩ => by
  obtain ⟨v, h1, h2⟩ := E.env.get ex
  exact ⟨v, h1, r, G, ρ, _, E.env, p, fun u y G1 H1 p1 W1 R1 => ⟨r, G1, x, y, _, (E.grow W1).env.st, h2.mono W1.g, R1, p1, fun w z G2 H2 p2 W2 R2 => q.nx _ _ _ _ _ p2 (((E.grow W1).grow W2).sets (js := [i]) ⟨fun k hk => by
      have : i ≠ k := fun z => hk (by simp [z])
      exact ⟨List.getElem?_set_ne this, List.getElem?_set_ne this⟩, by simp, fun k y hk => by
      have : k = i := by simpa using hk
      subst this
      rw [List.getElem?_set]
      simp only [if_true]
      split <;> simp, fun k C a fs hk => by
      have : k = i := by simpa using hk
      subst this
      rw [List.getElem?_set]
      simp only [if_true]
      split <;> simp⟩ (((E.env.grow W1).grow W2).set R2))⟩⟩
theorem do_iadd : DO X (inplaceOp .Add) (fIn0 fun i j => .int (i + j)) := do_in0 iop_add fun _ _ _ => .int _
theorem do_isub : DO X (inplaceOp .Sub) (fIn0 fun i j => .int (i - j)) := do_in0 iop_sub fun _ _ _ => .int _
theorem own_in {K : Fg} {r : Option Addr} {G H : Hp} {σ : L2.St} {ρ : List PV} (E : EnvR K r G H σ ρ) {i : Nat} {xs : List Dt} (e : ρ[i]? = some (.own (.list xs))) : ∃ a vs, σ[i]? = some (some (.ref a)) ∧ H a = some (.lst vs) ∧ Reps K G vs xs := by
  obtain ⟨a, h1, _, _, h2⟩ := E.getO e
  cases h2 with
  | lst h3 h4 => exact ⟨a, _, h1, h3, h4⟩
/-- x.append(e), x.extend(e) -/
def sApp (i : Nat) (te : PT0) : PTS := fun P ρ => ∃ xs, ρ[i]? = some (.own (.list xs)) ∧ te ρ fun y => xs.length < sizeLine ∧ P.nx (ρ.set i (.own (.list (xs ++ [y]))))
def sExt (i : Nat) (te : PT0) : PTS := fun P ρ => ∃ xs, ρ[i]? = some (.own (.list xs)) ∧ te ρ fun y => ∃ ys, y = .list ys ∧ xs.length + ys.length ≤ sizeLine ∧ P.nx (ρ.set i (.own (.list (xs ++ ys))))
theorem ds_app (i : Nat) {x : Str} {p0 apos cpos : Pos} (he : DE X e te) (hi : X.N[i]? = some x := by rfl) (hv : Vis X.env.scope x := by first | exact Or.inl rfl | exact Or.inr (Or.inl rfl) | exact Or.inr (Or.inr rfl)) (hd : (x == ("__debug__" : Str)) = false := by decide)
    (hcd : (x == ("__classdict__" : Str)) = false := by decide) (hs : starEach (e :: []) X.env = (false, eval e X.env) :: starEach [] X.env := by rfl) (hbase : attributeBase (.Name x p0) "append" X.env (eval (.Name x p0) X.env) = eval (.Name x p0) X.env := by rfl)
    (hfew : ((backTo cpos (starEach (e :: []) X.env)).all (fun x => !x.1) && (backToKw cpos (keywordEach [] X.env)).all (fun x => x.1.isSome) && decide ((e :: ([] : List Expr)).length + ([] : List Keyword).length + (if ([] : List Keyword).isEmpty then 0 else 1) < 30)) = true := by rfl)
    (hline : (apos.endLine == cpos.line) = true := by rfl) (hplain : (backTo cpos (starEach [] X.env)).any (·.1) = false := by rfl) (hsw : swapsWith (.Call (.Attribute (.Name x p0) "append" apos) [e] [] cpos) none pos.line X.env = pure false := by rfl) :
    DS X (.Expr (.Call (.Attribute (.Name x p0) "append" apos) [e] [] cpos) pos) (sApp i te) :=
  PS.weak (ps_expr (pe_bm PySem.F.plainAttrs_list PySem.F.slot_list_append PySem.F.type_list_append mt_append (pe_var hi hv hd hcd) (pa_cons he pa_nil hs) hbase hfew hline hs hplain) hsw) fun Dn σ H ⟨r0, G0, H0, r, G, ρ, P, E, ⟨xs, ex, p⟩, q⟩ => by
    obtain ⟨a, vs, h1, h2, h3⟩ := own_in E.env ex
    refine ⟨.ref a, h1, .inl ⟨rfl, _, SqL.of h2⟩, r, G, ρ, _, E.env, p, fun v y G1 H1 p1 W R => ?_⟩
    have E1 := E.grow W
    obtain ⟨a', vs', h1', h2', h3'⟩ := own_in E1.env ex
    rw [h1] at h1'
    cases h1'
    exact ⟨a, vs', v, rfl, rfl, h2', by rw [h3'.length]; exact p1.1, q.nx _ _ _ _ _ p1.2 (E1.put ex h1 (.lst upd_same (h3'.snoc R)))⟩
theorem ds_ext (i : Nat) {x : Str} {p0 apos cpos : Pos} (he : DE X e te) (hi : X.N[i]? = some x := by rfl) (hv : Vis X.env.scope x := by first | exact Or.inl rfl | exact Or.inr (Or.inl rfl) | exact Or.inr (Or.inr rfl)) (hd : (x == ("__debug__" : Str)) = false := by decide)
    (hcd : (x == ("__classdict__" : Str)) = false := by decide) (hs : starEach (e :: []) X.env = (false, eval e X.env) :: starEach [] X.env := by rfl) (hbase : attributeBase (.Name x p0) "extend" X.env (eval (.Name x p0) X.env) = eval (.Name x p0) X.env := by rfl)
    (hfew : ((backTo cpos (starEach (e :: []) X.env)).all (fun x => !x.1) && (backToKw cpos (keywordEach [] X.env)).all (fun x => x.1.isSome) && decide ((e :: ([] : List Expr)).length + ([] : List Keyword).length + (if ([] : List Keyword).isEmpty then 0 else 1) < 30)) = true := by rfl)
    (hline : (apos.endLine == cpos.line) = true := by rfl) (hplain : (backTo cpos (starEach [] X.env)).any (·.1) = false := by rfl) (hsw : swapsWith (.Call (.Attribute (.Name x p0) "extend" apos) [e] [] cpos) none pos.line X.env = pure false := by rfl) :
    DS X (.Expr (.Call (.Attribute (.Name x p0) "extend" apos) [e] [] cpos) pos) (sExt i te) :=
  PS.weak (ps_expr (pe_bm PySem.F.plainAttrs_list PySem.F.slot_list_extend PySem.F.type_list_extend mt_extend (pe_var hi hv hd hcd) (pa_cons he pa_nil hs) hbase hfew hline hs hplain) hsw) fun Dn σ H ⟨r0, G0, H0, r, G, ρ, P, E, ⟨xs, ex, p⟩, q⟩ => by
    obtain ⟨a, vs, h1, h2, h3⟩ := own_in E.env ex
    refine ⟨.ref a, h1, .inl ⟨rfl, _, SqL.of h2⟩, r, G, ρ, _, E.env, p, fun v y G1 H1 ⟨ys, ey, p1, p2⟩ W R => ?_⟩
    have E1 := E.grow W
    obtain ⟨a', vs', h1', h2', h3'⟩ := own_in E1.env ex
    rw [h1] at h1'
    cases h1'
    subst ey
    cases R with
    | lst e4 r4 => exact ⟨a, _, vs', _, rfl, rfl, h2', W.gh _ _ e4, by rw [h3'.length, r4.length]; exact p1, q.nx _ _ _ _ _ p2 (E1.put ex h1 (.lst upd_same (h3'.append r4)))⟩
/-- x[k] = e -/
def sSet (i : Nat) (ty tv : PT0) : PTS := fun P ρ => tv ρ fun v => ∃ xs, ρ[i]? = some (.own (.list xs)) ∧ ty ρ fun k => ∃ n j, k = .int n ∧ ixN xs.length n = some j ∧ P.nx (ρ.set i (.own (.list (xs.set j v))))
theorem ds_setO (i : Nat) {x : Str} {k : Expr} {p0 p1 : Pos} (hk : DE X k ty) (he : DE X e tv) (hi : X.N[i]? = some x := by rfl) (hv : Vis X.env.scope x := by first | exact Or.inl rfl | exact Or.inr (Or.inl rfl) | exact Or.inr (Or.inr rfl)) (hd : (x == ("__debug__" : Str)) = false := by decide)
    (hcd : (x == ("__classdict__" : Str)) = false := by decide)
    (ha : ∀ v, assign (.Subscript (.Name x p0) k p1) X.env v = (do
      let ov ← holding [v] (eval (.Name x p0) X.env)
      let iv ← holding [v, ov] (eval k X.env)
      standAt p1
      holding [v, ov, iv] (setItem ov iv v)
      release [v, ov, iv] []) := by intro _; rfl)
    (hs : swapsWithSole [.Subscript (.Name x p0) k p1] e pos.line X.env = pure false := by rfl) (hw : swappedStores [.Subscript (.Name x p0) k p1] e X.env = pure none := by rfl)
    (h1 : (assignEach [.Subscript (.Name x p0) k p1] X.env).map (·.2) = [assign (.Subscript (.Name x p0) k p1) X.env] := by rfl) : DS X (.Assign [.Subscript (.Name x p0) k p1] e pos) (sSet i ty tv) :=
  PS.weak (ps_asg he (pg_sub (pe_var hi hv hd hcd) hk set_list ha) hs hw h1) fun Dn σ H ⟨r0, G0, H0, r, G, ρ, P, E, p, q⟩ => ⟨r, G, ρ, _, E.env, p, fun v y G1 H1 ⟨xs, ex, p1⟩ W1 R1 => by
    have E1 := E.grow W1
    obtain ⟨a, vs, h1, h2, h3⟩ := own_in E1.env ex
    refine ⟨.ref a, h1, r, G1, ρ, _, E1.env, p1, fun w z G2 H2 ⟨n, j, en, hj, p2⟩ W2 R2 => ?_⟩
    have E2 := E1.grow W2
    obtain ⟨a', vs', h1', h2', h3'⟩ := own_in E2.env ex
    rw [h1] at h1'
    cases h1'
    subst en
    cases R2
    exact ⟨a, vs', n, j, rfl, rfl, h2', by rw [h3'.length]; exact hj, q.nx _ _ _ _ _ p2 (E2.put ex h1 (.lst upd_same (Reps.set (R1.mono W2.g) j h3')))⟩⟩

/-! ### loops -/
def forP (g : PTG) (tb : PTS) (P : PEnds) : List Dt → List PV → Prop
  | [], ρ => P.nx ρ
  | x :: xs, ρ => g x ρ fun ρ1 => tb { P with nx := forP g tb P xs, ct := forP g tb P xs, bk := P.nx } ρ1
def sFor (ti : PTI) (g : PTG) (tb : PTS) : PTS := fun P ρ => ti ρ fun xs => xs.length ≤ sizeLine → forP g tb P xs ρ
theorem EnvS.rebase {K : Fg} {r0 r : Option Addr} {G0 H0 G1 G H : Hp} {σ : L2.St} {ρ : List PV} (E : EnvS K r0 G1 H0 r G H σ ρ) (g : Same G0 G1) (y : ∀ b o, H0 b = some o → G0 b = none → G1 b = none) : EnvS K r0 G0 H0 r G H σ ρ :=
  ⟨E.env, ⟨g.trans E.gr.g, E.gr.h, E.gr.gh, fun b o e n => E.gr.y b o e (y b o e n), E.gr.row⟩, E.rr, E.rh, E.yg, E.yo⟩
theorem EnvS.base {K : Fg} {r0 r : Option Addr} {G0 H0 G H : Hp} {σ : L2.St} {ρ : List PV} (E : EnvS K r0 G0 H0 r G H σ ρ) : EnvS K r0 G H0 r G H σ ρ :=
  ⟨E.env, ⟨Same.refl _, E.gr.h, E.gr.gh, fun _ _ _ e => e, E.gr.row⟩, E.rr, E.rh, E.yg, E.yo⟩
theorem ds_for {js : List Nat} {ti : PTI} {g : PTG} (hp : PassesOwn (model X.prog X.w) X.A X.env X.xe) (hc : X.calm = true) (hi : DI X tg iter ti) (hg : DG X tg js g) (hb : DSs X body tb)
    (hs : ∀ x, foldedSetIterable iter X.env x = pure x := by intro _; rfl) : DS X (.For tg iter body [] pos) (sFor ti g tb) :=
  PS.weak (ps_for hp hc hi hg hb hs) fun Dn σ H ⟨r0, G0, H0, r, G, ρ, P, E, p, q⟩ => ⟨r, G, ρ, _, E.env, p, fun J xs G1 H1 p1 W1 hJ => by
    obtain ⟨Gd, Y, wk, hG, hY⟩ := hJ.ex
    have p1 := p1 hJ.len
    have E1 := E.grow W1
    have back : ∀ {r' : Option Addr} {G' H' : Hp} {σ' : L2.St} {ρ' : List PV}, EnvS X.K r0 G1 H0 r' G' H' σ' ρ' → EnvS X.K r0 G0 H0 r' G' H' σ' ρ' := fun E' => E'.rebase E1.gr.g E1.gr.y
    refine for_it wk (fun i σ' H' => ∃ r' G' ρ', EnvS X.K r0 G1 H0 r' G' H' σ' ρ' ∧ forP g tb P (xs.drop i) ρ') ⟨r, G1, ρ, E1.base, by rw [List.drop_zero]; exact p1⟩ (fun i σ' H' _ ⟨r', G', ρ', E', _⟩ => hG H' (E'.gr.g.trans E'.gr.gh)) (fun i x σ' H' H2 hi ⟨r', G', ρ', E', pp⟩ hy => ?_) (fun σ' H' ⟨r', G', ρ', E', pp⟩ => ?_)
    · obtain ⟨Gc, Wc, Rx⟩ := hY i H' x H2 xs[i] G' r' E'.gr.g E'.env.st (List.getElem?_eq_getElem hi) hy
      rw [List.drop_eq_getElem_cons hi] at pp
      have E2 := E'.grow Wc
      exact ⟨r', Gc, ρ', xs[i], _, E2.env, Rx, pp, fun σ3 ρ3 p3 E3 S3 => ⟨r0, G1, H0, r', Gc, ρ3, _, E2.sets S3 E3, p3, ⟨fun r4 σ4 ρ4 G4 H4 p4 E4 => ⟨r4, G4, ρ4, E4, p4⟩, fun r4 σ4 ρ4 G4 H4 p4 E4 => q.nx _ _ _ _ _ p4 (back E4), fun r4 σ4 ρ4 G4 H4 p4 E4 => ⟨r4, G4, ρ4, E4, p4⟩,
        fun v d G4 H4 p4 W4 R4 => q.rt v d G4 H4 p4 ⟨E1.gr.g.trans W4.g, W4.h, W4.gh, fun b o e n => W4.y b o e (E1.gr.y b o e n), W4.row⟩ R4⟩⟩⟩
    · rw [List.drop_length] at pp
      exact q.nx _ _ _ _ _ pp (back E')⟩
/-- while: a word and a measure -/
def sWhile (c : PTT) (tb : PTS) : PTS := fun P ρ => ∃ W : Nat → List PV → Prop, (∃ m, W m ρ) ∧ ∀ m ρ, W m ρ → c ρ fun k => if k = true then ∃ N : List PV → Prop, (∀ ρ', N ρ' → ∃ m', m' < m ∧ W m' ρ') ∧ tb { P with nx := N, ct := N, bk := P.nx } ρ else P.nx ρ
theorem ds_while {tc : PTT} (hp : PassesOwn (model X.prog X.w) X.A X.env X.xe) (hc : DT X c tc) (hb : DSs X body tb) : DS X (.While c body [] pos) (sWhile tc tb) :=
  PS.weak (ps_while hp hc hb) fun Dn σ H ⟨r0, G0, H0, r, G, ρ, P, E, ⟨W, ⟨m, w0⟩, p⟩, q⟩ => by
    refine ⟨fun m σ' H' => ∃ r' G' ρ', EnvS X.K r0 G0 H0 r' G' H' σ' ρ' ∧ W m ρ', ⟨m, r, G, ρ, E, w0⟩, fun m σ' H' ⟨r', G', ρ', E', w'⟩ => ?_⟩
    refine ⟨r', G', ρ', _, E'.env, p m ρ' w', fun k G2 H2 p2 W2 => ?_⟩
    have E2 := E'.grow W2
    cases k with
    | false => exact q.nx _ _ _ _ _ p2 E2
    | true =>
      obtain ⟨N, hN, p2⟩ := (if_pos rfl).mp p2
      exact iteT ⟨fun σ4 H4 => ∃ r4 G4 ρ4, EnvS X.K r0 G0 H0 r4 G4 H4 σ4 ρ4 ∧ N ρ4, fun σ4 H4 ⟨r4, G4, ρ4, E4, n4⟩ => by
        obtain ⟨m', hm, w4⟩ := hN ρ4 n4
        exact ⟨m', hm, r4, G4, ρ4, E4, w4⟩, r0, G0, H0, r', G2, ρ', _, E2, p2, ⟨fun r4 σ4 ρ4 G4 H4 p4 E4 => ⟨r4, G4, ρ4, E4, p4⟩, fun r4 σ4 ρ4 G4 H4 p4 E4 => q.nx _ _ _ _ _ p4 E4, fun r4 σ4 ρ4 G4 H4 p4 E4 => ⟨r4, G4, ρ4, E4, p4⟩, q.rt⟩⟩
/-- a, b = x, y: plain local names, stored from the right -/
def sPar (i j : Nat) (ta : PTA) : PTS := fun P ρ => ta ρ fun xs => ∃ x y, xs = [x, y] ∧ P.nx ((ρ.set i (.d x)).set j (.d y))
theorem set_sets {K : Fg} {r : Option Addr} {G H : Hp} {σ : L2.St} {ρ : List PV} (i : Nat) (v : V) (x : Dt) : Sets [i] σ ρ (σ.set i (some v)) (ρ.set i (.d x)) := ⟨fun k hk => by
    have : i ≠ k := fun z => hk (by simp [z])
    exact ⟨List.getElem?_set_ne this, List.getElem?_set_ne this⟩, by simp, fun k y hk => by
    have : k = i := by simpa using hk
    subst this
    rw [List.getElem?_set]
    simp only [if_true]
    split <;> simp, fun k C a fs hk => by
    have : k = i := by simpa using hk
    subst this
    rw [List.getElem?_set]
    simp only [if_true]
    split <;> simp⟩
theorem ds_par (i j : Nat) {x y : Str} {a b : Expr} {ta : PTA} {px py pt : Pos} {kt k2 pt2} (hc : X.calm = true) (hN : X.N.Nodup) (ha : DA X [a, b] ta) (hi : X.N[i]? = some x := by rfl) (hj : X.N[j]? = some y := by rfl) (hij : i ≠ j := by decide)
    (hx : X.env.scope.names.lookup x = some .local := by rfl) (hy : X.env.scope.names.lookup y = some .local := by rfl)
    (hw : swappedStores [.Tuple [.Name x px, .Name y py] kt pt] (.Tuple [a, b] k2 pt2) X.env = pure (some [x, y]) := by rfl)
    (hs : swapsWithSole [.Tuple [.Name x px, .Name y py] kt pt] (.Tuple [a, b] k2 pt2) pos.line X.env = pure false := by rfl) : DS X (.Assign [.Tuple [.Name x px, .Name y py] kt pt] (.Tuple [a, b] k2 pt2) pos) (sPar i j ta) :=
  PS.weak (ps_par hc hN hi hj hij hx hy ha hw hs) fun Dn σ H ⟨r0, G0, H0, r, G, ρ, P, E, p, q⟩ => ⟨r, G, ρ, _, E.env, p, fun vs xs G1 H1 ⟨x, y, e, p1⟩ W R => by
    subst e
    cases R with
    | cons R1 R2 =>
      cases R2 with
      | cons R2 R3 =>
        cases R3
        have E1 := E.grow W
        have A := E1.env.set (i := i) R1
        exact ⟨_, _, rfl, q.nx _ _ _ _ _ p1 ((E1.sets (set_sets (K := X.K) (r := r) (G := G1) (H := H1) i _ x) A).sets (set_sets (K := X.K) (r := r) (G := G1) (H := H1) j _ y) (A.set R2))⟩⟩
/-- sep.join(texts) -/
def dJoin (to te : PT0) : PT0 := fun ρ P => to ρ fun s => ∃ a, s = .str a ∧ te ρ fun y => ∃ xs ys, (y = .list xs ∨ y = .tuple xs) ∧ dStrs xs = some ys ∧ (ys.map (·.length)).sum + ys.length * a.length ≤ 16777216 ∧ P (.str (Txt.join a ys))
theorem de_join {o e : Expr} {to te : PT0} {apos pos : Pos} (ho : DE X o to) (he : DE X e te) (hs : starEach [e] X.env = [(false, eval e X.env)] := by rfl) (hbase : attributeBase o "join" X.env (eval o X.env) = eval o X.env := by rfl) (hline : (apos.endLine == pos.line) = true := by rfl) :
    DE X (.Call (.Attribute o "join" apos) [e] [] pos) (dJoin to te) := PE.weak (pe_join ho he hs hbase hline) fun σ H Q ⟨r, G, ρ, P, E, p, q⟩ => ⟨r, G, ρ, _, E, p, fun v d G1 H1 ⟨a, ea, p1⟩ W1 R1 => by
  subst ea
  cases R1
  refine ⟨⟨a, rfl⟩, r, G1, ρ, _, E.grow W1, p1, fun u y G2 H2 ⟨xs, ys, ey, es, hz, p2⟩ W2 R2 => ?_⟩
  have ex := strs_eq es
  subst ex
  rcases ey with ey | ey
  · subst ey
    cases R2 with
    | lst e3 r3 =>
      rw [r3.strs] at e3
      exact ⟨a, _, ys, rfl, rfl, .inl (SqL.of (W2.gh _ _ e3)), hz, q _ _ _ _ p2 (W1.trans W2) (.str _)⟩
  · subst ey
    cases R2 with
    | tup e3 r3 =>
      rw [r3.strs] at e3
      exact ⟨a, _, ys, rfl, rfl, .inr (same_seqP W2.gh e3), hz, q _ _ _ _ p2 (W1.trans W2) (.str _)⟩⟩
end
end PD
namespace PD
open PySem PySem.Spec PyProof.Rows L2

/-! ### zip of a list or a tuple with a list or a tuple -/
def SIt : Bool → Heap → Addr → Addr → Nat → Prop
  | true, h, it, l, i => h.IsListIter it l i
  | false, h, it, l, i => h.IsTupleIter it l i
def SSq : Bool → Heap → Addr → Array Value → Prop
  | true, h, l, xs => h.IsList l xs
  | false, h, l, xs => h.IsTuple l xs
def SqB (K : Fg) : Bool → Hp → Addr → List V → Prop
  | true => SqL K
  | false => SqT K
def sideObj : Bool → Addr → Obj
  | true, l => { cls := .type "list_iterator", data := .fields #[.ref l, .int 0 0] }
  | false, l => { cls := .type "tuple_iterator", data := .fields #[.ref l, .int 0 0] }
theorem side_draws {prog : Program} {w : World} {A : Around} (b : Bool) (hh : A.handled = none) (it l : Addr) (hne : l ≠ it) (items : Array Value) : Draws prog w A it [it, l] items.size (fun i v => items[i]? = some v) (fun i h => SIt b h it l i ∧ SSq b h l items) := by
  cases b
  · exact Draws.tuple hh it l hne items
  · exact Draws.list hh it l hne items
theorem side_begins (b : Bool) (l : Addr) (items : Array Value) : Begins (.ref l) (sideObj b l) fun h => SSq b h l items := by
  cases b
  · exact begins_tuple l items
  · exact begins_list l items
theorem side_it {b : Bool} {h : Heap} {it l : Addr} (e : h.get? it = some (sideObj b l)) : SIt b h it l 0 := by
  cases b <;> exact ⟨_, e, rfl, rfl⟩
theorem side_obj {b : Bool} {h : Heap} {it l : Addr} {i : Nat} (s : SIt b h it l i) : ∃ o, h.get? it = some o ∧ ∀ v, o.data ≠ .cell v := by
  cases b <;> (obtain ⟨o, e, _, d⟩ := s; exact ⟨o, e, fun v q => by rw [d] at q; cases q⟩)
theorem side_at {b : Bool} {h h' : Heap} {it l : Addr} {i : Nat} (s : SIt b h it l i) (k : ∀ o, h.get? it = some o → h'.get? it = some o) : SIt b h' it l i := by
  cases b <;> exact s.at k
section
variable {X : Cx} {pins : List (Addr × Obj)} {σ : L2.St} {H : Hp} {s : Shared}
theorem side_inv {b : Bool} {a : Addr} {xs : List V} (I : Inv X pins σ H s) (h : SqB X.K b H a xs) : ∃ its : List Value, Vals xs its ∧ SSq b s.heap a its.toArray ∧ xs.length ≤ sizeLine ∧ a < s.heap.objs.size := by
  cases b
  · obtain ⟨its, r, p, z⟩ := I.tuple h
    exact ⟨its, r, p, z, p.lt⟩
  · obtain ⟨its, r, p, z⟩ := I.list h
    exact ⟨its, r, p.isList, z, p.lt⟩
theorem side_inj {b : Bool} {a : Addr} {xs ys : List V} (I : Inv X pins σ H s) (h : SqB X.K b H a xs) (h' : SqB X.K b H a ys) : xs = ys := by
  cases b
  · exact I.tuple_inj h h'
  · exact I.list_inj h h'
end
def Itzz (K : Fg) (p q : Bool) (a b : Addr) : It :=
  ⟨fun i H => ∃ (xs ys : List V) (x y : V), SqB K p H a xs ∧ SqB K q H b ys ∧ xs[i]? = some x ∧ ys[i]? = some y,
    fun i H v H' => ∃ T x y, v = .ref T ∧ H T = none ∧ H' = upd H T (.tup [x, y]) ∧ (∀ xs, SqB K p H a xs → xs[i]? = some x) ∧ ∀ ys, SqB K q H b ys → ys[i]? = some y,
    fun i H => ∃ xs ys : List V, SqB K p H a xs ∧ SqB K q H b ys ∧ i = min xs.length ys.length⟩
theorem turn_zz {P : Program} {w : World} {K : Fg} {elts : List Expr} {kk : Nat} {tpos : Pos} (p q : Bool) {a b z TI TO i1 i2 : Addr} (D : ZipSep2 z TI TO i1 i2 [i1, a] [i2, b]) (h1 : a ≠ i1) (h2 : b ≠ i2) :
    Turn P w K (.Tuple elts kk tpos) (Itzz K p q a b) [z, TI, TO, i1, i2] z (fun i h => IsZip h z TI TO .none ∧ IsTupOf2 h TI (.ref i1) (.ref i2) ∧ (∃ x y, IsTupOf2 h TO x y) ∧ SIt p h i1 a i ∧ SIt q h i2 b i) where
  mem := by simp
  obj := fun i h ⟨hz, hI, ⟨x, y, hO⟩, s1, s2⟩ c hc => by
    simp only [List.mem_cons, List.not_mem_nil, or_false] at hc
    rcases hc with rfl | rfl | rfl | rfl | rfl
    · exact ⟨_, hz, fun v q => nomatch q⟩
    · exact ⟨_, hI, fun v q => nomatch q⟩
    · exact ⟨_, hO, fun v q => nomatch q⟩
    · exact side_obj s1
    · exact side_obj s2
  keep := fun i h h' ⟨hz, hI, ⟨x, y, hO⟩, s1, s2⟩ k => ⟨k z (by simp) _ hz, k TI (by simp) _ hI, ⟨x, y, k TO (by simp) _ hO⟩, side_at s1 fun o e => k i1 (by simp) o e, side_at s2 fun o e => k i2 (by simp) o e⟩
  item := by
    intro X hP hw hK hc i pins s σ H E I hf ⟨hz, hI, hO, s1, s2⟩ ⟨xs, ys, x, y, hx, hy, ex, ey⟩
    subst hP hw hK
    obtain ⟨its, rv, sq, _, _⟩ := side_inv I hx
    obtain ⟨its2, rv2, sq2, _, _⟩ := side_inv I hy
    have hh := I.ok.hd hc
    have W := GoesN.zip2 (prog := X.prog) (w := X.w) (A := X.A) (elts := elts) (x1 := kk) (pos := tpos) D (side_draws (A := X.A.in1) p hh i1 a h1 its.toArray) (side_draws (A := X.A.in1) q hh i2 b h2 its2.toArray)
    have hi : i < min its.toArray.size its2.toArray.size := by
      have e1 := (List.getElem?_eq_some_iff.mp ex).1
      have e2 := (List.getElem?_eq_some_iff.mp ey).1
      have e3 := rv.length
      have e4 := rv2.length
      simp only [List.size_toArray]
      omega
    refine W.goes i s (fun v s2 => ∃ x' H', Inv X pins σ H' s2 ∧ L2.RelV x' v ∧ (Itzz X.K p q a b).yld i H x' H' ∧ (IsZip s2.heap z TI TO .none ∧ IsTupOf2 s2.heap TI (.ref i1) (.ref i2) ∧ (∃ x y, IsTupOf2 s2.heap TO x y) ∧ SIt p s2.heap i1 a (i + 1) ∧ SIt q s2.heap i2 b (i + 1)) ∧ ∀ c ∈ [z, TI, TO, i1, i2], H' c = none) E hi ⟨hz, hI, hO, ⟨s1, sq⟩, s2, sq2⟩ fun v h' tk ⟨T, x', y', ev, hT, hx', hy', hTup⟩ ⟨g1, g2, g3, ⟨g4, _⟩, g5, _⟩ hk _ => ?_
    subst ev
    obtain ⟨u1, e1, r1⟩ := rv.get ex
    obtain ⟨u2, e2, r2⟩ := rv2.get ey
    have e3 : its[i]? = some x' := by simpa using hx'
    have e4 : its2[i]? = some y' := by simpa using hy'
    rw [e1] at e3
    rw [e2] at e4
    cases e3
    cases e4
    have hn : H T = none := I.hok.fresh hT
    obtain ⟨o, ho, hcl, n, hd⟩ := hTup
    have new : ObjOk X.prog X.w (upd H T (.tup [x, y])) h' T (.tup [x, y]) := ⟨by show 2 ≤ sizeLine; decide, [x', y'], .cons r1 (.cons r2 .nil), ⟨o, ho, hcl, n, hd⟩⟩
    refine ⟨.ref T, _, I.turnedNew (t' := tk) (ch := [z, TI, TO, i1, i2]) (fun c o' hc' e => hk c o' (fun m => hc' ?_) e) hf hT new, rfl, ⟨T, x, y, rfl, hn, rfl, fun xs' h => ?_, fun ys' h => ?_⟩, ⟨g1, g2, g3, g4, g5⟩, fun c hcm => ?_⟩
    · simp only [List.mem_cons, List.not_mem_nil, or_false] at m ⊢
      rcases m with m | m | m | m <;> simp [m]
    · rw [side_inj I h hx]; exact ex
    · rw [side_inj I h hy]; exact ey
    · obtain ⟨oc, hoc⟩ : ∃ oc, s.heap.get? c = some oc := by
        simp only [List.mem_cons, List.not_mem_nil, or_false] at hcm
        rcases hcm with rfl | rfl | rfl | rfl | rfl
        · exact ⟨_, hz⟩
        · exact ⟨_, hI⟩
        · obtain ⟨_, _, e⟩ := hO; exact ⟨_, e⟩
        · obtain ⟨o, e, _⟩ := side_obj s1; exact ⟨o, e⟩
        · obtain ⟨o, e, _⟩ := side_obj s2; exact ⟨o, e⟩
      rw [upd_ne (Nat.ne_of_lt (Nat.lt_of_lt_of_le (Heap.lt_size hoc) hT))]
      exact (hf c hcm).1
  done := by
    intro X hP hw hK hc i pins s σ H E I hf ⟨hz, hI, hO, s1, s2⟩ ⟨xs, ys, hx, hy, hend⟩
    subst hP hw hK
    obtain ⟨its, rv, sq, _, _⟩ := side_inv I hx
    obtain ⟨its2, rv2, sq2, _, _⟩ := side_inv I hy
    have hh := I.ok.hd hc
    have W := GoesN.zip2 (prog := X.prog) (w := X.w) (A := X.A) (elts := elts) (x1 := kk) (pos := tpos) D (side_draws (A := X.A.in1) p hh i1 a h1 its.toArray) (side_draws (A := X.A.in1) q hh i2 b h2 its2.toArray)
    have hi : i = min its.toArray.size its2.toArray.size := by
      have e3 := rv.length
      have e4 := rv2.length
      simp only [List.size_toArray]
      omega
    subst hi
    refine thn (W.stops s (fun s' => Inv X pins σ H s') E ⟨hz, hI, hO, ⟨s1, sq⟩, s2, sq2⟩ fun h' tk hk _ => I.turnedL (t' := tk) (ch := [z, TI, TO, i1, i2]) (fun c o' hc' e => hk c o' (fun m => hc' ?_) e) hf) fun r s' hq => hq
    simp only [List.mem_cons, List.not_mem_nil, or_false] at m ⊢
    rcases m with m | m | m | m <;> simp [m]
  self := fun A i s Q E st h => wpAny_pyIter_zip st.1 h
def iZZ (K : Fg) (ta : TA) : TI := fun σ H R => ta σ H fun vs H1 => ∃ (p q : Bool) (a b : Addr) (xs ys : List V), vs = [.ref a, .ref b] ∧ SqB K p H1 a xs ∧ SqB K q H1 b ys ∧ (xs.length ≤ sizeLine → R (Itzz K p q a b) H1)
theorem pi_zz {X : Cx} {e e2 : Expr} {ta : TA} {p pos tpos : Pos} {elts : List Expr} {kk : Nat} (hg : Gl X "zip") (hm : X.mg "zip" = none) (ha : PA X [e, e2] ta)
    (hs : starEach [e, e2] X.env = (false, eval e X.env) :: starEach [e2] X.env := by rfl) (hpl : (backTo pos (starEach [e2] X.env)).any (·.1) = false := by rfl) :
    PI X (.Tuple elts kk tpos) (.Call (.Name "zip" p) [e, e2] [] pos) (iZZ X.K ta) := by
  refine ⟨fun pins s σ H R I h => Call_ (ld_blt I hg hm PyProof.Rows.boot_zip (PyProof.Rows.callWith_type1 (thn (ha.run pos pins s σ H _ I h) fun us s1 ⟨vs, H1, I1, r1, q1⟩ => ?_) hs hpl))⟩
  obtain ⟨k1, k2, a, b, xs, ys, ex, hx, hy, q⟩ := q1
  subst ex
  cases r1 with
  | cons r rr =>
    cases rr with
    | cons r' rr =>
      cases rr; cases r; cases r'
      obtain ⟨its, rv, sq, hz1, l1⟩ := side_inv I1 hx
      obtain ⟨its2, rv2, sq2, _, l2⟩ := side_inv I1 hy
      have ff : ∀ c, c ∈ [s1.heap.objs.size + 4, s1.heap.objs.size + 2, s1.heap.objs.size + 3, s1.heap.objs.size, s1.heap.objs.size + 1] → FpOk X pins H1 c := fun c hcm => by
        have hle : s1.heap.objs.size ≤ c := by
          simp only [List.mem_cons, List.not_mem_nil, or_false] at hcm
          rcases hcm with z | z | z | z | z <;> (rw [z]; first | exact Nat.le_refl _ | exact Nat.le_add_right _ _)
        exact I1.fpOk hle (I1.hok.fresh hle)
      refine zip_begins2 (side_begins k1 a its.toArray) (side_begins k2 b its2.toArray) sq sq2 fun h' hz hTI hTO h1 h2 hsz hk => wpAny_pyIter_zip hz ?_
      have D := zip_sep2 (N := s1.heap.objs.size) (fp1 := [a]) (fp2 := [b]) (by simpa using l1) (by simpa using l2)
      exact ⟨_, _, _, _, H1, rfl, I1.kept (t' := s1.toks) hk, turn_zz k1 k2 D (Nat.ne_of_lt l1) (Nat.ne_of_lt (Nat.lt_succ_of_lt l2)), ⟨hz, hTI, ⟨_, _, hTO⟩, side_it h1, side_it h2⟩, ff, q hz1⟩
/-- pairs of what stands in two lists or tuples -/
def seqD : Dt → Option (List Dt)
  | .list xs => some xs
  | .tuple xs => some xs
  | _ => none
def zipD (xs ys : List Dt) : List Dt := List.zipWith (fun x y => .tuple [x, y]) xs ys
def dZip (t : PTA) : PTI := fun ρ P => t ρ fun ds => ∃ x y xs ys, ds = [x, y] ∧ seqD x = some xs ∧ seqD y = some ys ∧ P (zipD xs ys)
theorem side_rep {K : Fg} {G : Hp} {v : V} {x : Dt} {xs : List Dt} (R : Rep K G v x) (e : seqD x = some xs) : ∃ p a vs, v = .ref a ∧ (∀ H, Same G H → SqB K p H a vs) ∧ Reps K G vs xs := by
  cases R with
  | lst e1 r1 =>
    cases e
    exact ⟨true, _, _, rfl, fun H g => SqL.of (g _ _ e1), r1⟩
  | tup e1 r1 =>
    cases e
    exact ⟨false, _, _, rfl, fun H g => same_seqP g e1, r1⟩
  | non => cases e
  | bl => cases e
  | int => cases e
  | str => cases e
  | dic => cases e
  | dicT => cases e
theorem itr_zip {K : Fg} {G : Hp} {p q : Bool} {a b : Addr} {vs ws : List V} {xs ys : List Dt} (ha : ∀ H, Same G H → SqB K p H a vs) (hb : ∀ H, Same G H → SqB K q H b ws) (R : Reps K G vs xs) (R' : Reps K G ws ys) (hz : xs.length ≤ sizeLine) : ItR K G (Itzz K p q a b) (zipD xs ys) := by
  have hl := R.length
  have hl' := R'.length
  have hn : (zipD xs ys).length = min vs.length ws.length := by simp [zipD, hl, hl']
  refine ⟨by rw [hn]; omega, fun H => SqB K p H a vs ∧ SqB K q H b ws, YPair (fun i => vs[i]?) (fun i => ws[i]?), ⟨fun i H hi g => ?_, fun H g => ⟨vs, ws, g.1, g.2, hn⟩, fun i H v H' _ g y => ?_⟩, fun H g => ⟨ha H g, hb H g⟩, fun i H v H' x Gc r g S hx hy => ?_⟩
  · have h1 : i < vs.length := by omega
    have h2 : i < ws.length := by omega
    exact ⟨vs, ws, vs[i], ws[i], g.1, g.2, List.getElem?_eq_getElem h1, List.getElem?_eq_getElem h2⟩
  · obtain ⟨T, x, z, h1, h2, h3, h4, h5⟩ := y
    exact ⟨T, x, z, h1, h2, h3, h4 vs g.1, h5 ws g.2⟩
  · obtain ⟨T, v1, v2, rfl, hT, rfl, h4, h5⟩ := hy
    unfold zipD at hx
    rw [List.getElem?_zipWith] at hx
    obtain ⟨d1, e1, r1⟩ := R.get' h4
    obtain ⟨d2, e2, r2⟩ := R'.get' h5
    rw [e1, e2] at hx
    cases hx
    have W := S.lay (o := .tup [v1, v2]) hT
    exact ⟨_, W, .tup upd_same (.cons (r1.mono (g.trans W.g)) (.cons (r2.mono (g.trans W.g)) .nil))⟩
theorem di_zip {X : Cx} {e e2 : Expr} {t : PTA} {p pos tpos : Pos} {elts : List Expr} {kk : Nat} (hm : X.mg "zip" = none) (ha : DA X [e, e2] t) (hg : Gl X "zip" := by rfl)
    (hs : starEach [e, e2] X.env = (false, eval e X.env) :: starEach [e2] X.env := by rfl) (hpl : (backTo pos (starEach [e2] X.env)).any (·.1) = false := by rfl) :
    DI X (.Tuple elts kk tpos) (.Call (.Name "zip" p) [e, e2] [] pos) (dZip t) := PI.weak (pi_zz hg hm ha hs hpl) fun σ H R ⟨r, G, ρ, P, E, p, q⟩ => ⟨r, G, ρ, _, E, p, fun vs ds G1 H1 ⟨x, y, xs, ys, e, ex, ey, p1⟩ W1 R1 => by
  subst e
  cases R1 with
  | cons R1 R2 =>
    cases R2 with
    | cons R2 R3 =>
      cases R3
      obtain ⟨k1, a, us, rfl, ha, r1⟩ := side_rep R1 ex
      obtain ⟨k2, b, ws, rfl, hb, r2⟩ := side_rep R2 ey
      exact ⟨k1, k2, a, b, us, ws, rfl, ha H1 W1.gh, hb H1 W1.gh, fun hz => q _ _ _ _ p1 W1 (itr_zip ha hb r1 r2 (r1.length ▸ hz))⟩⟩
end PD
namespace PD
open PySem PySem.Spec PyProof.Rows L2
/-! ### enumerate of a list or a tuple -/
theorem meets_enum1 {v : Value} {o : Obj} {H : Heap → Prop} (B : Begins v o H) :
    Meets (Builtin.«enumerate.__new__» ⟨[.type "enumerate", v], []⟩) (fun _ R s => H s.heap ∧
      R (.ok (.ret (.ref (s.heap.push o).objs.size))) { s with heap := (s.heap.push o).push { cls := .type "enumerate", data := .fields #[.none, .bool false, .ref s.heap.objs.size, rawInt 0, .none, .none] } }) :=
  .of_wp fun prog w A R s h => by
    obtain ⟨hp, g, d, tk, os⟩ := s; obtain ⟨h1, h⟩ := h
    have hsub := sub_enumerate
    have q1 : ∀ {A' : Around} {E : Value → Shared → Prop} {Q : Value → Shared → Prop}, Q (.ref hp.objs.size) ⟨(hp.push o), g, d, tk, os⟩ → wpAny (model prog w) A' (pyIter v) Q E ⟨hp, g, d, tk, os⟩ :=
      fun q => B.iter prog w _ _ ⟨hp, g, d, tk, os⟩ _ h1 q
    wp_walk using q1
    refine wpAny_stack_any fun st => wpAny_pure ?_
    split
    · rename_i c _ _ _ _ _
      cases (c == Value.type "enumerate")
      · wp_walk using q1
        exact ⟨_, rfl, h⟩
      · wp_walk using q1
        exact ⟨_, rfl, h⟩
    · wp_walk using q1
      exact ⟨_, rfl, h⟩
section
variable {prog : Program} {w : World} {A : Around} {E : Value → Shared → Prop} {s : Shared}
theorem enum_begins1 {v : Value} {o : Obj} {H : Heap → Prop} {Q : Value → Shared → Prop} (B : Begins v o H) (h1 : H s.heap)
    (h : ∀ h', IsEnum h' (s.heap.objs.size + 1) s.heap.objs.size 0 .none → h'.get? s.heap.objs.size = some o → h'.objs.size = s.heap.objs.size + 2 → (∀ b o, s.heap.get? b = some o → h'.get? b = some o) → Q (.ref (s.heap.objs.size + 1)) { s with heap := h' }) :
    wpAny (model prog w) A (call (.type "enumerate") [v]) Q E s := by
  refine callType_new F.called_enumerate (by decide) (F.typeCall_enumerate_1 _) (F.newCall_enumerate_1 _) (fun obj => F.args_object_init_2 obj _) F.entry_enumerate_new (meets_enum1 B) ⟨h1, ?_⟩
  have hz : (s.heap.push o).objs.size = s.heap.objs.size + 1 := Heap.size_push ..
  show _ ∧ _
  rw [hz]
  have he : IsEnum ((s.heap.push o).push { cls := .type "enumerate", data := .fields #[.none, .bool false, .ref s.heap.objs.size, rawInt 0, .none, .none] }) (s.heap.objs.size + 1) s.heap.objs.size 0 .none := by
    have := Heap.get?_push_size (s.heap.push o) (o := { cls := .type "enumerate", data := .fields #[.none, .bool false, .ref s.heap.objs.size, rawInt 0, .none, .none] }) rfl
    rw [hz] at this; exact this
  refine ⟨⟨_, he, rfl⟩, h _ he (Heap.get?_push_of_some _ (Heap.get?_push_size _ B.free)) (by rw [Heap.size_push, hz]) fun b o x => Heap.get?_push_of_some _ (Heap.get?_push_of_some _ x)⟩
end
def Itee (K : Fg) (p : Bool) (a : Addr) : It :=
  ⟨fun i H => ∃ (xs : List V) (x : V), SqB K p H a xs ∧ xs[i]? = some x,
    fun i H v H' => ∃ T x, v = .ref T ∧ H T = none ∧ H' = upd H T (.tup [.int (i : Nat), x]) ∧ ∀ xs, SqB K p H a xs → xs[i]? = some x,
    fun i H => ∃ xs : List V, SqB K p H a xs ∧ i = xs.length⟩
theorem turn_ee {P : Program} {w : World} {K : Fg} {elts : List Expr} {kk : Nat} {tpos : Pos} (p : Bool) {a e it : Addr} (h1 : a ≠ it) (h2 : a ≠ e) (h3 : e ≠ it) :
    Turn P w K (.Tuple elts kk tpos) (Itee K p a) [e, it] e (fun i h => (∃ old, IsEnum h e it (0 + (i : Int)) old) ∧ SIt p h it a i) where
  mem := by simp
  obj := fun i h ⟨⟨old, he⟩, s1⟩ c hc => by
    simp only [List.mem_cons, List.not_mem_nil, or_false] at hc
    rcases hc with rfl | rfl
    · exact ⟨_, he, fun v q => nomatch q⟩
    · exact side_obj s1
  keep := fun i h h' ⟨⟨old, he⟩, s1⟩ k => ⟨⟨old, k e (by simp) _ he⟩, side_at s1 fun o q => k it (by simp) o q⟩
  item := by
    intro X hP hw hK hc i pins s σ H E I hf ⟨he, s1⟩ ⟨xs, x, hx, ex⟩
    subst hP hw hK
    obtain ⟨its, rv, sq, _, _⟩ := side_inv I hx
    have hh := I.ok.hd hc
    have W := GoesN.enumFrom (prog := X.prog) (w := X.w) (A := X.A) (elts := elts) (x1 := kk) (pos := tpos) 0 (side_draws (A := X.A.in1) p hh it a h1 its.toArray) e h3 (by simp [h3, Ne.symm h2]) (by simp)
    have hi : i < its.toArray.size := by
      have e1 := (List.getElem?_eq_some_iff.mp ex).1
      have e3 := rv.length
      simp only [List.size_toArray]
      omega
    refine W.goes i s (fun v s2 => ∃ x' H', Inv X pins σ H' s2 ∧ L2.RelV x' v ∧ (Itee X.K p a).yld i H x' H' ∧ ((∃ old, IsEnum s2.heap e it (0 + ((i + 1 : Nat) : Int)) old) ∧ SIt p s2.heap it a (i + 1)) ∧ ∀ c ∈ [e, it], H' c = none) E hi ⟨he, s1, sq⟩ fun v h' tk ⟨T, t, x', ev, hT, hx', hTup⟩ ⟨g1, g2, _⟩ hk _ => ?_
    subst ev
    obtain ⟨u1, e1, r1⟩ := rv.get ex
    have e3 : its[i]? = some x' := by simpa using hx'
    rw [e1] at e3
    cases e3
    have hn : H T = none := I.hok.fresh hT
    obtain ⟨o, ho, hcl, n, hd⟩ := hTup
    rw [Int.zero_add] at hd
    have new : ObjOk X.prog X.w (upd H T (.tup [.int (i : Nat), x])) h' T (.tup [.int (i : Nat), x]) := ⟨by show 2 ≤ sizeLine; decide, [.int (i : Nat) t, x'], .cons ⟨t, rfl⟩ (.cons r1 .nil), ⟨o, ho, hcl, n, hd⟩⟩
    refine ⟨.ref T, _, I.turnedNew (t' := tk) (ch := [e, it]) (fun c o' hc' e => hk c o' (fun m => hc' ?_) e) hf hT new, rfl, ⟨T, x, rfl, hn, rfl, fun xs' h => ?_⟩, ⟨g1, g2⟩, fun c hcm => ?_⟩
    · simp only [List.mem_cons, List.not_mem_nil, or_false] at m ⊢
      rcases m with m | m <;> simp [m]
    · rw [side_inj I h hx]; exact ex
    · obtain ⟨oc, hoc⟩ : ∃ oc, s.heap.get? c = some oc := by
        simp only [List.mem_cons, List.not_mem_nil, or_false] at hcm
        rcases hcm with rfl | rfl
        · obtain ⟨_, he⟩ := he; exact ⟨_, he⟩
        · obtain ⟨o, e, _⟩ := side_obj s1; exact ⟨o, e⟩
      rw [upd_ne (Nat.ne_of_lt (Nat.lt_of_lt_of_le (Heap.lt_size hoc) hT))]
      exact (hf c hcm).1
  done := by
    intro X hP hw hK hc i pins s σ H E I hf ⟨he, s1⟩ ⟨xs, hx, hend⟩
    subst hP hw hK
    obtain ⟨its, rv, sq, _, _⟩ := side_inv I hx
    have hh := I.ok.hd hc
    have W := GoesN.enumFrom (prog := X.prog) (w := X.w) (A := X.A) (elts := elts) (x1 := kk) (pos := tpos) 0 (side_draws (A := X.A.in1) p hh it a h1 its.toArray) e h3 (by simp [h3, Ne.symm h2]) (by simp)
    have hi : i = its.toArray.size := by
      have e3 := rv.length
      simp only [List.size_toArray]
      omega
    subst hi
    refine thn (W.stops s (fun s' => Inv X pins σ H s') E ⟨he, s1, sq⟩ fun h' tk hk _ => I.turnedL (t' := tk) (ch := [e, it]) (fun c o' hc' e => hk c o' (fun m => hc' ?_) e) hf) fun r s' hq => hq
    simp only [List.mem_cons, List.not_mem_nil, or_false] at m ⊢
    rcases m with m | m <;> simp [m]
  self := fun A i s Q E st h => by
    obtain ⟨⟨_, he⟩, _⟩ := st
    exact wpAny_pyIter_enum he h
def iEE (K : Fg) (ta : TA) : TI := fun σ H R => ta σ H fun vs H1 => ∃ (p : Bool) (a : Addr) (xs : List V), vs = [.ref a] ∧ SqB K p H1 a xs ∧ (xs.length ≤ sizeLine → R (Itee K p a) H1)
theorem pi_ee {X : Cx} {e : Expr} {ta : TA} {p pos tpos : Pos} {elts : List Expr} {kk : Nat} (hg : Gl X "enumerate") (hm : X.mg "enumerate" = none) (ha : PA X [e] ta)
    (hs : starEach [e] X.env = [(false, eval e X.env)] := by rfl) :
    PI X (.Tuple elts kk tpos) (.Call (.Name "enumerate" p) [e] [] pos) (iEE X.K ta) := by
  refine ⟨fun pins s σ H R I h => Call_ (ld_blt I hg hm boot_enumerate (PyProof.Rows.callWith_type1 (thn (ha.run pos pins s σ H _ I h) fun us s1 ⟨vs, H1, I1, r1, q1⟩ => ?_) hs rfl))⟩
  obtain ⟨k1, a, xs, ex, hx, q⟩ := q1
  subst ex
  cases r1 with
  | cons r rr =>
    cases rr; cases r
    obtain ⟨its, rv, sq, hz1, l1⟩ := side_inv I1 hx
    refine enum_begins1 (side_begins k1 a its.toArray) sq fun h' he hIt hsz hk => wpAny_pyIter_enum he ?_
    refine ⟨s1.heap.objs.size + 1, [s1.heap.objs.size + 1, s1.heap.objs.size], _, _, H1, rfl, I1.kept (t' := s1.toks) hk, turn_ee k1 (Nat.ne_of_lt l1) (Nat.ne_of_lt (Nat.lt_succ_of_lt l1)) (Nat.succ_ne_self _), ⟨⟨.none, he⟩, side_it hIt⟩, fun b hb => ?_, q hz1⟩
    have e' : b = s1.heap.objs.size + 1 ∨ b = s1.heap.objs.size := by simpa using hb
    have hle : s1.heap.objs.size ≤ b := by
      rcases e' with z | z
      · rw [z]; exact Nat.le_add_right _ _
      · rw [z]; exact Nat.le_refl _
    exact I1.fpOk hle (I1.hok.fresh hle)
def enumFromD (k : Nat) : List Dt → List Dt
  | [] => []
  | x :: xs => .tuple [.int k, x] :: enumFromD (k + 1) xs
def enumD (xs : List Dt) : List Dt := enumFromD 0 xs
theorem enumFromD_length : ∀ (xs : List Dt) (k : Nat), (enumFromD k xs).length = xs.length
  | [], _ => rfl
  | x :: xs, k => by simp [enumFromD, enumFromD_length xs]
theorem enumFromD_get : ∀ (xs : List Dt) (k i : Nat), (enumFromD k xs)[i]? = (xs[i]?).map fun x => .tuple [.int ((k + i : Nat) : Int), x]
  | [], _, _ => by simp [enumFromD]
  | x :: xs, k, 0 => by simp [enumFromD]
  | x :: xs, k, i + 1 => by
    simp only [enumFromD, List.getElem?_cons_succ, enumFromD_get xs (k + 1) i]
    rw [show k + 1 + i = k + (i + 1) by omega]
def dEnum (t : PTA) : PTI := fun ρ P => t ρ fun ds => ∃ x xs, ds = [x] ∧ seqD x = some xs ∧ P (enumD xs)
theorem itr_enum {K : Fg} {G : Hp} {p : Bool} {a : Addr} {vs : List V} {xs : List Dt} (ha : ∀ H, Same G H → SqB K p H a vs) (R : Reps K G vs xs) (hz : xs.length ≤ sizeLine) : ItR K G (Itee K p a) (enumD xs) := by
  have hl := R.length
  have hn : (enumD xs).length = vs.length := by rw [enumD, enumFromD_length, hl]
  refine ⟨by rw [hn]; omega, fun H => SqB K p H a vs, YPair (fun i => some (.int (i : Nat))) (fun i => vs[i]?), ⟨fun i H hi g => ?_, fun H g => ⟨vs, g, hn⟩, fun i H v H' _ g y => ?_⟩, fun H g => ha H g, fun i H v H' x Gc r g S hx hy => ?_⟩
  · have h1 : i < vs.length := by omega
    exact ⟨vs, vs[i], g, List.getElem?_eq_getElem h1⟩
  · obtain ⟨T, x, h1, h2, h3, h4⟩ := y
    exact ⟨T, .int (i : Nat), x, h1, h2, h3, rfl, h4 vs g⟩
  · obtain ⟨T, v1, v2, rfl, hT, rfl, h4, h5⟩ := hy
    cases h4
    rw [enumD, enumFromD_get, Nat.zero_add] at hx
    obtain ⟨d2, e2, r2⟩ := R.get' h5
    rw [e2] at hx
    cases hx
    have W := S.lay (o := .tup [.int (i : Nat), v2]) hT
    exact ⟨_, W, .tup upd_same (.cons (.int _) (.cons (r2.mono (g.trans W.g)) .nil))⟩
theorem di_enum {X : Cx} {e : Expr} {t : PTA} {p pos tpos : Pos} {elts : List Expr} {kk : Nat} (hm : X.mg "enumerate" = none) (ha : DA X [e] t) (hg : Gl X "enumerate" := by rfl)
    (hs : starEach [e] X.env = [(false, eval e X.env)] := by rfl) :
    DI X (.Tuple elts kk tpos) (.Call (.Name "enumerate" p) [e] [] pos) (dEnum t) := PI.weak (pi_ee hg hm ha hs) fun σ H R ⟨r, G, ρ, P, E, p, q⟩ => ⟨r, G, ρ, _, E, p, fun vs ds G1 H1 ⟨x, xs, e, ex, p1⟩ W1 R1 => by
  subst e
  cases R1 with
  | cons R1 R2 =>
    cases R2
    obtain ⟨k1, a, us, rfl, ha, r1⟩ := side_rep R1 ex
    exact ⟨k1, a, us, rfl, ha H1 W1.gh, fun hz => q _ _ _ _ p1 W1 (itr_enum ha r1 (r1.length ▸ hz))⟩⟩
end PD
namespace PD
open PySem PySem.Spec PyProof.Rows L2

section
variable {X : Cx} {pos : Pos} {a : Expr} {ta : PT0}
/-! ### truth of any datum; a module's constant -/
def truD : Dt → Option Bool
  | .none => some false
  | .bool b => some b
  | .int i => some (i != 0)
  | .list xs => some !xs.isEmpty
  | .tuple xs => some !xs.isEmpty
  | _ => none
def dTru (t : PT0) : PTT := fun ρ P => t ρ fun x => ∃ k, truD x = some k ∧ P k
theorem isEmpty_reps {K : Fg} {G : Hp} {vs : List V} {xs : List Dt} (R : Reps K G vs xs) : vs.isEmpty = xs.isEmpty := by
  cases R <;> rfl
theorem dt_truth (h : DE X a ta) (he : ∀ whole, isTrue a X.env whole = (do let v ← whole; standAt a.pos; holding [v] (truthy v)) := by intro _; rfl) : DT X a (dTru ta) := PT.weak (pt_truth h he) fun σ H Q ⟨r, G, ρ, P, E, p, q⟩ => ⟨r, G, ρ, _, E, p, fun v x G1 H1 ⟨k, ek, p1⟩ W1 R1 => by
  cases R1 <;> cases ek
  · exact ⟨_, rfl, q _ _ _ p1 W1⟩
  · exact ⟨_, rfl, q _ _ _ p1 W1⟩
  · exact ⟨_, rfl, q _ _ _ p1 W1⟩
  · rename_i e1 r1 _
    exact ⟨_, .inl ⟨_, SqL.of (W1.gh _ _ e1), rfl⟩, by rw [isEmpty_reps r1]; exact q _ _ _ p1 W1⟩
  · rename_i e1 r1 _
    exact ⟨_, .inr (.inl ⟨_, same_seqP W1.gh e1, rfl⟩), by rw [isEmpty_reps r1]; exact q _ _ _ p1 W1⟩⟩
theorem de_globS {x : Str} {z : Str} {t : Tok} (hm : X.mg x = some (.str z t)) (hg : Gl X x := by rfl) (hd : (x == ("__debug__" : Str)) = false := by decide) : DE X (.Name x pos) (dC (.str z)) :=
  PE.weak (pe_glob (v := .str z) hg hm ⟨t, rfl⟩ hd) fun σ H Q ⟨r, G, ρ, P, E, p, q⟩ => q _ _ G H p E.st.grow (.str z)
/-- what `len` and its kin find at a list of one's own -/
def dLenO (i : Nat) : PT0 := fun ρ P => ∃ xs, ρ[i]? = some (.own (.list xs)) ∧ P (.int xs.length)
theorem de_lenO (i : Nat) {x : Str} {p p0 : Pos} (hm : X.mg "len" = none) (hi : X.N[i]? = some x := by rfl) (hv : Vis X.env.scope x := by first | exact Or.inl rfl | exact Or.inr (Or.inl rfl) | exact Or.inr (Or.inr rfl)) (hg : Gl X "len" := by rfl) (hd : (x == ("__debug__" : Str)) = false := by decide)
    (hcd : (x == ("__classdict__" : Str)) = false := by decide) (he : starEach [.Name x p0] X.env = (false, eval (.Name x p0) X.env) :: starEach [] X.env := by rfl) (hpl : (backTo pos (starEach [] X.env)).any (·.1) = false := by rfl) :
    DE X (.Call (.Name "len" p) [.Name x p0] [] pos) (dLenO i) := PE.weak (pe_callB call_len hg hm PySem.boot_len (pa_cons (pe_var hi hv hd hcd) pa_nil he) (he := he) (hpl := hpl)) fun σ H Q ⟨r, G, ρ, P, E, ⟨xs, ex, p⟩, q⟩ => by
  obtain ⟨a, vs, h1, h2, h3⟩ := own_in E ex
  exact ⟨.ref a, h1, .ref a, _, rfl, .inl ⟨_, SqL.of h2, rfl⟩, by rw [h3.length]; exact q _ _ G H p E.st.grow (.int _)⟩
end

/-! ### a def of the text, with what is known of its name -/
structure Df (K : Fg) (mg : Str → Option Value) (x : Str) (st : Stmt) (ps : List Str) (f : Addr) (fd : FuncData) : Prop where
  fn : Fun K x x st f fd
  gl : mg x = some (.ref f)
  bd : Binds K fd ps []
theorem df_call {X : Cx} {k : Nat} {f : Addr} {fd : FuncData} {ps : List Str} {F : PF} {x : Str} {p pos : Pos} {e : Expr} {es : List Expr} {t : PTAs} {st : Stmt} {j : Nat} (D : Df X.K X.mg x st ps f fd) (Fk : FnOk X.prog X.w X.K X.mg X.base CX0 k f fd ps (liftF X.K F)) (hr : Room j X.A) (ha : DAs X (e :: es) t) (hj : k ≤ j := by decide) (hg : Gl X x := by rfl)
    (hdb : (x == ("__debug__" : Str)) = false := by decide) (he : starEach (e :: es) X.env = (false, eval e X.env) :: starEach es X.env := by rfl) (hpl : (backTo pos (starEach es X.env)).any (·.1) = false := by rfl) :
    DE X (.Call (.Name x p) (e :: es) [] pos) (dCall F t) := de_call Fk (hr.mono hj) D.gl D.fn.kp D.bd ha hg hdb he hpl
/-- the built-in names that the text leaves as they are -/
structure Blt (mg : Str → Option Value) : Prop where
  len : mg "len" = none
  isinstance : mg "isinstance" = none
  int : mg "int" = none
  bool : mg "bool" = none
  str : mg "str" = none
  tuple : mg "tuple" = none
  list : mg "list" = none
  dict : mg "dict" = none
  set : mg "set" = none
  all : mg "all" = none
  any : mg "any" = none
  zip : mg "zip" = none
  range : mg "range" = none
  enumerate : mg "enumerate" = none
  sorted : mg "sorted" = none
  min : mg "min" = none
  max : mg "max" = none
  sum : mg "sum" = none

/-! ### row = [script, n, n, n] -/
def sRow (i j : Nat) : PTS := fun P ρ => i < ρ.length ∧ (∃ ns, ρ[j]? = some (.scr ns)) ∧ (∀ k : Nat, ρ[k]? ≠ some PV.row) ∧ P.nx (ρ.set i .row)
theorem ds_row (i j : Nat) {X : Cx} {x y : Str} {a b c : Int} {ka kb kc : Nat} {p1 p2 p3 p4 p5 p6 pos : Pos} (h0 : 0 ≤ a) (hN : X.N.Nodup) (hi : X.N[i]? = some x := by rfl) (hj : X.N[j]? = some y := by rfl) (hv : Vis X.env.scope y := by first | exact Or.inl rfl | exact Or.inr (Or.inl rfl) | exact Or.inr (Or.inr rfl)) (hx : Loc X.env.scope x := by first | exact Or.inl rfl | exact Or.inr rfl)
    (hd : (y == ("__debug__" : Str)) = false := by decide) (hcd : (y == ("__classdict__" : Str)) = false := by decide)
    (hs : swapsWith (.List [.Name y p2, .Constant (.int a) ka p3, .Constant (.int b) kb p4, .Constant (.int c) kc p5] p6) (some (.Name x p1)) pos.line X.env = pure false := by rfl)
    (s0 : starEach [.Name y p2, .Constant (.int a) ka p3, .Constant (.int b) kb p4, .Constant (.int c) kc p5] X.env = (false, eval (.Name y p2) X.env) :: starEach [.Constant (.int a) ka p3, .Constant (.int b) kb p4, .Constant (.int c) kc p5] X.env := by rfl)
    (s1 : starEach [.Constant (.int a) ka p3, .Constant (.int b) kb p4, .Constant (.int c) kc p5] X.env = (false, eval (.Constant (.int a) ka p3) X.env) :: starEach [.Constant (.int b) kb p4, .Constant (.int c) kc p5] X.env := by rfl)
    (s2 : starEach [.Constant (.int b) kb p4, .Constant (.int c) kc p5] X.env = (false, eval (.Constant (.int b) kb p4) X.env) :: starEach [.Constant (.int c) kc p5] X.env := by rfl)
    (s3 : starEach [.Constant (.int c) kc p5] X.env = (false, eval (.Constant (.int c) kc p5) X.env) :: starEach [] X.env := by rfl)
    (hf : X.fn x = true ∨ X.env.scope.names.lookup x = some .local := by first | exact .inl rfl | exact .inr rfl) :
    DS X (.Assign [.Name x p1] (.List [.Name y p2, .Constant (.int a) ka p3, .Constant (.int b) kb p4, .Constant (.int c) kc p5] p6) pos) (sRow i j) :=
  PS.weak (ps_set hN hi hx (pe_lst (pa_cons (pe_var hj hv hd hcd) (pa_cons pe_int (pa_cons pe_int (pa_cons pe_int pa_nil s3) s2) s1) s0)) hs hf) fun Dn σ H ⟨r0, G0, H0, r, G, ρ, P, E, ⟨hl, ⟨ns, ej⟩, no, p⟩, q⟩ => by
    obtain ⟨o, h1, sa, rfl, h2⟩ := E.env.slot j _ ej
    refine ⟨.ref sa, h1, by show 4 ≤ sizeLine; decide, fun c' hc => ?_⟩
    have S := E.env.st
    have gc : G c' = none := S.gh.free hc
    have W := S.lay0 (o := .lst [.ref sa, .int a, .int b, .int c]) hc
    have rc := S.rowNe hc
    refine q.nx (some c') _ _ _ _ p ⟨⟨⟨W.gh, fun d ed => ?_⟩, by simp [E.env.len], fun k pv e => ?_, fun k l d x' y' e1 e2 e3 e4 => ?_, apart_set E.env.apart (fun _ => by simp) (fun _ _ _ => by simp)⟩, E.grown W, .inr ⟨c', rfl, ?_⟩, E.rh, fun k d x' e1 e2 => ?_, fun k C d fs e => E.yo k C d fs (set_not_obj e fun _ _ _ => by simp).2⟩
    · cases ed
      exact ⟨gc, sa, ns, a, b, c, upd_same, h2, h0⟩
    · by_cases hk : k = i
      · subst hk
        rw [List.getElem?_set_self hl] at e
        cases e
        exact ⟨_, List.getElem?_set_self (by rw [E.env.len]; exact hl), c', rfl, rfl⟩
      · rw [List.getElem?_set_ne (Ne.symm hk)] at e ⊢
        obtain ⟨o, g1, g2⟩ := E.env.slot k pv e
        refine ⟨o, g1, ?_⟩
        cases pv with
        | un => trivial
        | d x => exact g2
        | own x =>
          obtain ⟨d, rfl, gd, rd, g3⟩ := g2
          obtain ⟨od, hd⟩ := g3.some
          have ne : d ≠ c' := ne_of_none hd hc
          exact ⟨d, rfl, gd, fun z => ne (Option.some.inj z).symm, g3.at (Same.refl _) (upd_ne ne)⟩
        | row => exact absurd e (no k)
        | scr ns => exact g2
        | rng lo hi => exact g2
        | ins C fs => exact g2
        | obj C d fs =>
          obtain ⟨rfl, g3, g4⟩ := g2
          have ne : ∀ b ∈ d :: fps fs, b ≠ c' := fun b hb => by
            obtain ⟨u, hu⟩ := g3.there b hb
            exact ne_of_none hu hc
          exact ⟨rfl, g3.at (Same.refl _) fun b hb => upd_ne (ne b hb), fun b hb => ⟨(g4 b hb).1, fun z => ne b hb (Option.some.inj z).symm⟩⟩
        | fz p => exact g2
    · have f1 : ρ[k]? = some (.own x') := by
        by_cases hk : k = i
        · subst hk; rw [List.getElem?_set_self hl] at e1; cases e1
        · rwa [List.getElem?_set_ne (Ne.symm hk)] at e1
      have f2 : ρ[l]? = some (.own y') := by
        by_cases hk : l = i
        · subst hk; rw [List.getElem?_set_self hl] at e2; cases e2
        · rwa [List.getElem?_set_ne (Ne.symm hk)] at e2
      have n1 : k ≠ i := fun z => by subst z; rw [List.getElem?_set_self hl] at e1; cases e1
      have n2 : l ≠ i := fun z => by subst z; rw [List.getElem?_set_self hl] at e2; cases e2
      rw [List.getElem?_set_ne (Ne.symm n1)] at e3
      rw [List.getElem?_set_ne (Ne.symm n2)] at e4
      exact E.env.dist k l d x' y' f1 f2 e3 e4
    · cases z : H0 c' with
      | none => rfl
      | some u =>
        obtain ⟨o', h⟩ := E.gr.there z
        rw [hc] at h; cases h
    · have n1 : k ≠ i := fun z => by subst z; rw [List.getElem?_set_self hl] at e1; cases e1
      rw [List.getElem?_set_ne (Ne.symm n1)] at e1 e2
      exact E.yg k d x' e1 e2

/-! ### the law's draws -/
theorem row_grow {K : Fg} {G H H' : Hp} {a sa : Addr} {ns : List Int} {i s q : Int} (S : Start K (some a) G H) (e : H' a = some (.lst [.ref sa, .int i, .int s, .int q])) (hs : SqL K G sa (ns.map V.int)) (h0 : 0 ≤ i) (k : ∀ b, b ≠ a → H' b = H b) : Grow K (some a) G H G H' := by
  have ga := (S.row a rfl).1
  exact ⟨Same.refl _, fun b o n h => (k b fun z => n (z ▸ rfl)).trans h, fun b o h => (k b fun z => by subst z; rw [ga] at h; cases h).trans (S.gh _ _ h), fun _ _ _ n => n, fun c ec => by cases ec; exact ⟨sa, ns, i, s, q, e, hs, h0⟩⟩
def Ftaken : PF := fun as P => ∃ n : Int, as = [.row, .d (.int n)] ∧ 0 < n ∧ n < 1073741824 ∧ ∀ x : Int, 0 ≤ x → x < n → P (.int x)
section
variable {P : Program} {w : World} {K : Fg} {mg : Str → Option Value} {base : Heap}
theorem at4 {a b c d : V} : atI [a, b, c, d] 0 = some a ∧ atI [a, b, c, d] 1 = some b ∧ atI [a, b, c, d] 2 = some c ∧ atI [a, b, c, d] 3 = some d := ⟨rfl, rfl, rfl, rfl⟩
theorem mod_in {i n : Int} (h : 0 < n) : 0 ≤ i % n ∧ i % n < n := ⟨Int.emod_nonneg _ (by omega), Int.emod_lt_of_pos _ h⟩
end
end PD
namespace PD
open PySem L2

/-! ### readings of comprehensions and loops, as a whole -/
theorem lcP_map {g : PTG} {te : PT0} {ρ : List PV} (f : Dt → Dt) : ∀ (xs acc : List Dt) (P : List Dt → Prop), (∀ x ∈ xs, ∀ P' : Dt → Prop, P' (f x) → g x ρ fun ρ1 => te ρ1 P') → P (acc ++ xs.map f) → lcP g dYes te ρ xs acc P
  | [], acc, P, _, h => by simpa [lcP] using h
  | x :: xs, acc, P, hx, h => by
    unfold lcP
    simp only [dYes, if_true]
    refine hx x (by simp) _ (lcP_map f xs (acc ++ [f x]) P (fun y hy => hx y (by simp [hy])) ?_)
    simpa using h
theorem lcP_rel {g : PTG} {te : PT0} {ρ : List PV} (R : Dt → Dt → Prop) : ∀ (xs acc : List Dt) (P : List Dt → Prop), (∀ x ∈ xs, ∀ P' : Dt → Prop, (∀ y, R x y → P' y) → g x ρ fun ρ1 => te ρ1 P') → (∀ ys, Paired R xs ys → P (acc ++ ys)) → lcP g dYes te ρ xs acc P
  | [], acc, P, _, h => by simpa [lcP] using h [] .nil
  | x :: xs, acc, P, hx, h => by
    unfold lcP
    simp only [dYes, if_true]
    refine hx x (by simp) _ fun y hy => lcP_rel R xs (acc ++ [y]) P (fun y hy => hx y (by simp [hy])) fun ys hr => ?_
    simpa using h (y :: ys) (.cons hy hr)
theorem lcP_filter {g : PTG} {tt : PTT} {te : PT0} {ρ : List PV} (b : Dt → Bool) (f : Dt → Dt) : ∀ (xs acc : List Dt) (P : List Dt → Prop),
    (∀ x ∈ xs, ∀ (Pt : Dt → Prop) (Pf : Prop), (if b x = true then Pt (f x) else Pf) → g x ρ fun ρ1 => tt ρ1 fun k => if k = true then te ρ1 Pt else Pf) → P (acc ++ (xs.filter b).map f) → lcP g tt te ρ xs acc P
  | [], acc, P, _, h => by simpa [lcP] using h
  | x :: xs, acc, P, hx, h => by
    unfold lcP
    refine hx x (by simp) _ _ ?_
    by_cases hb : b x = true
    · rw [if_pos hb]
      exact lcP_filter b f xs _ P (fun y hy => hx y (by simp [hy])) (by simpa [List.filter_cons, hb] using h)
    · rw [if_neg hb]
      exact lcP_filter b f xs _ P (fun y hy => hx y (by simp [hy])) (by simpa [List.filter_cons, hb] using h)

theorem lcP_map0 {g : PTG} {te : PT0} {ρ : List PV} (f : Dt → Dt) (xs : List Dt) (P : List Dt → Prop) (h : ∀ x ∈ xs, ∀ P' : Dt → Prop, P' (f x) → g x ρ fun ρ1 => te ρ1 P') (p : P (xs.map f)) : lcP g dYes te ρ xs [] P := lcP_map f xs [] P h (by simpa using p)
theorem lcP_rel0 {g : PTG} {te : PT0} {ρ : List PV} (R : Dt → Dt → Prop) (xs : List Dt) (P : List Dt → Prop) (h : ∀ x ∈ xs, ∀ P' : Dt → Prop, (∀ y, R x y → P' y) → g x ρ fun ρ1 => te ρ1 P') (p : ∀ ys, Paired R xs ys → P ys) : lcP g dYes te ρ xs [] P := lcP_rel R xs [] P h (by simpa using p)
theorem lcP_filter0 {g : PTG} {tt : PTT} {te : PT0} {ρ : List PV} (b : Dt → Bool) (f : Dt → Dt) (xs : List Dt) (P : List Dt → Prop)
    (h : ∀ x ∈ xs, ∀ (Pt : Dt → Prop) (Pf : Prop), (if b x = true then Pt (f x) else Pf) → g x ρ fun ρ1 => tt ρ1 fun k => if k = true then te ρ1 Pt else Pf) (p : P ((xs.filter b).map f)) : lcP g tt te ρ xs [] P := lcP_filter b f xs [] P h (by simpa using p)
theorem lcP_enc' {α : Type} {g : PTG} {te : PT0} {ρ : List PV} (enc f : α → Dt) : ∀ (ws : List α) (acc : List Dt) (P : List Dt → Prop), (∀ w ∈ ws, ∀ P' : Dt → Prop, P' (f w) → g (enc w) ρ fun ρ1 => te ρ1 P') → P (acc ++ ws.map f) → lcP g dYes te ρ (ws.map enc) acc P
  | [], acc, P, _, h => by simpa [lcP] using h
  | x :: xs, acc, P, hx, h => by
    rw [List.map_cons]
    unfold lcP
    simp only [dYes, if_true]
    refine hx x (by simp) _ (lcP_enc' enc f xs (acc ++ [f x]) P (fun y hy => hx y (by simp [hy])) ?_)
    simpa using h
theorem lcP_enc {α : Type} {g : PTG} {te : PT0} {ρ : List PV} (enc f : α → Dt) (ws : List α) (P : List Dt → Prop) (h : ∀ w ∈ ws, ∀ P' : Dt → Prop, P' (f w) → g (enc w) ρ fun ρ1 => te ρ1 P') (p : P (ws.map f)) : lcP g dYes te ρ (ws.map enc) [] P := lcP_enc' enc f ws [] P h (by simpa using p)
theorem zip_enc {α β : Type} (f : α → Dt) (h : β → Dt) : ∀ (xs : List α) (ys : List β), zipD (xs.map f) (ys.map h) = (xs.zip ys).map fun p => .tuple [f p.1, h p.2]
  | [], _ => by simp [zipD]
  | _ :: _, [] => by simp [zipD]
  | x :: xs, y :: ys => by
    have := zip_enc f h xs ys
    simp only [zipD] at this ⊢
    simp [this]
theorem ite_b {b : Bool} {A B : Prop} (h1 : b = true → A) (h2 : b = false → B) : if b = true then A else B := by
  cases b
  · simpa using h2 rfl
  · simpa using h1 rfl

/-! ### places of written tuples -/
theorem at0 {a : Dt} {l : List Dt} : atI (a :: l) 0 = some a := atI_nat (j := 0) rfl
theorem at1 {a b : Dt} {l : List Dt} : atI (a :: b :: l) 1 = some b := atI_nat (j := 1) rfl
theorem at2 {a b c : Dt} {l : List Dt} : atI (a :: b :: c :: l) 2 = some c := atI_nat (j := 2) rfl
theorem at3 {a b c d : Dt} {l : List Dt} : atI (a :: b :: c :: d :: l) 3 = some d := atI_nat (j := 3) rfl
theorem at_4 {a b c d e : Dt} {l : List Dt} : atI (a :: b :: c :: d :: e :: l) 4 = some e := atI_nat (j := 4) rfl
theorem fIx_tup {xs : List Dt} {k : Int} {P : Dt → Prop} : fIx (.tuple xs) (.int k) P = ∃ v, atI xs k = some v ∧ P v := rfl
theorem fIx_lst {xs : List Dt} {k : Int} {P : Dt → Prop} : fIx (.list xs) (.int k) P = ∃ v, atI xs k = some v ∧ P v := rfl
theorem aTup_tup {n : Nat} {t : PTGs} {xs : List Dt} {ρ : List PV} {P : List PV → Prop} : aTup n t (.tuple xs) ρ P = (xs.length = n ∧ t xs ρ P) := by
  simp [aTup]

/-! ### equality, by kinds -/
theorem eqOk_int (a b : Int) : eqOk (.int a) (.int b) = true := by simp [eqOk, SeqAt.shaped, PyData.canLay0, PyData.depth]
theorem eqOk_bool (a b : Bool) : eqOk (.bool a) (.bool b) = true := by cases a <;> cases b <;> decide
theorem eqOk_str (a b : Str) : eqOk (.str a) (.str b) = true := rfl
theorem eqOk_non : eqOk .none .none = true := by decide
theorem eqv_non : PyData.eqv .none .none = true := by simp [PyData.eqv]
theorem eqOk_nil : eqOk (.list []) (.list []) = true := by decide
theorem eqv_int (a b : Int) : PyData.eqv (.int a) (.int b) = decide (a = b) := by simp [PyData.eqv]; rfl
theorem eqv_bool (a b : Bool) : PyData.eqv (.bool a) (.bool b) = decide (a = b) := by cases a <;> cases b <;> simp [PyData.eqv]
theorem eqv_str (a b : Str) : PyData.eqv (.str a) (.str b) = decide (a = b) := by simp [PyData.eqv]; rfl
theorem eqv_nil : PyData.eqv (.list []) (.list []) = true := by simp [PyData.eqv, PyData.eqvAll]
theorem line_eq : sizeLine = 16777216 := sizeLine_eq
mutual
/-- texts within are of a size that len takes -/
def smD : Dt → Bool
  | .str z => decide (z.length ≤ 1000)
  | .list xs => smDs xs
  | .tuple xs => smDs xs
  | _ => true
def smDs : List Dt → Bool
  | [] => true
  | x :: xs => smD x && smDs xs
end
theorem smDs_mem : ∀ {xs : List Dt} {x : Dt}, smDs xs = true → x ∈ xs → smD x = true
  | y :: ys, x, h, hx => by
    simp only [smDs, Bool.and_eq_true] at h
    rcases List.mem_cons.mp hx with rfl | hx
    · exact h.1
    · exact smDs_mem h.2 hx
theorem sm_str {z : Str} (h : smD (.str z) = true) : z.length ≤ sizeLine := by
  simp only [smD, decide_eq_true_eq] at h
  rw [line_eq]; omega
end PD
namespace PD
open PySem PySem.Spec PyProof.Rows L2

/-! ### a range kept by a name -/
theorem cr_range1 {X : Cx} : CallR X (.type "range") (fun vs H Q => ∃ i, vs = [V.int i] ∧ ∀ p, H p = none → Q (.ref p) (upd H p (.rng 0 i))) := by
  intro pins s σ H vs us Q I r h
  obtain ⟨i, rfl, q⟩ := h
  cases r with
  | cons r rr =>
    cases rr
    obtain ⟨t, rfl⟩ := r
    refine call_range_1 ⟨.ref s.heap.objs.size, upd H s.heap.objs.size (.rng 0 i), I.laid (t' := s.toks + 1 + 1) (fun b o e => Heap.get?_push_of_some _ e) (Nat.le_refl _) ?_, rfl, q _ (I.hok.fresh (Nat.le_refl _))⟩
    exact ⟨s.toks, t, s.toks + 1, Heap.get?_push_size _ rfl⟩
def iRngV (te : TE) : TI := fun σ H R => te σ H fun x H1 => ∃ a lo hi, x = .ref a ∧ H1 a = some (.rng lo hi) ∧ (-(2 ^ 62) ≤ lo ∧ lo < 2 ^ 62 ∧ -(2 ^ 62) ≤ hi ∧ hi < 2 ^ 62) ∧ R (Itr lo (hi - lo).toNat) H1
theorem pi_rngV {X : Cx} {tg e : Expr} {te : TE} (he : PE X e te) : PI X tg e (iRngV te) := by
  refine ⟨fun pins s σ H R I h => ?_⟩
  refine thn (he.run pins s σ H _ I h) fun v s1 ⟨x, H1, I1, r1, a, lo, hi, ex, ha, ⟨b1, b2, b3, b4⟩, q⟩ => ?_
  subst ex
  cases r1
  obtain ⟨t1, t2, t3, ho⟩ := I1.hok a _ ha
  refine wpAny_pyIter_range (a := lo) (b := hi) (c := 1) (t := t1) (u := t2) (v := t3) ho (small_one b1 b2 b3 b4) ?_
  refine ⟨s1.heap.objs.size, [s1.heap.objs.size], _, _, H1, rfl, I1.kept (t' := s1.toks) fun b o e => Heap.get?_push_of_some _ e, turn_range _ lo (hi - lo).toNat, ?_, one_fp I1, q⟩
  have e1 : lo + ((0 : Nat) : Int) * 1 = lo := by simp
  have e2 : (((hi - lo).toNat : Nat) : Int) - ((0 : Nat) : Int) = Builtin.Range.rangeSize lo hi 1 := by rw [rangeSize_one]; split <;> omega
  show IsRangeIter _ _ (lo + ((0 : Nat) : Int) * 1) ((((hi - lo).toNat : Nat) : Int) - ((0 : Nat) : Int)) 1
  rw [e1, e2]
  exact Heap.get?_push_size _ rfl
section
variable {K : Fg} {r0 r : Option Addr} {G0 H0 G H G' H' : Hp} {σ σ' : L2.St} {ρ ρ' : List PV}
theorem EnvR.setP (E : EnvR K r G H σ ρ) {i : Nat} {o : Option V} {p : PV} (h : SlotR K r G H o p) (no : ∀ x, p ≠ .own x) (nb : ∀ C a fs, p ≠ .obj C a fs := by intros; simp) : EnvR K r G H (σ.set i o) (ρ.set i p) := by
  refine ⟨E.st, by simp [E.len], fun j q e => ?_, fun j k a x' y' e1 e2 e3 e4 => ?_, apart_set E.apart no nb⟩
  · by_cases hj : j = i
    · subst hj
      have hl : j < ρ.length := by
        have := (List.getElem?_eq_some_iff.mp e).1
        simpa using this
      rw [List.getElem?_set_self hl] at e
      cases e
      exact ⟨o, List.getElem?_set_self (by rw [E.len]; exact hl), h⟩
    · rw [List.getElem?_set_ne (Ne.symm hj)] at e ⊢
      exact E.slot j q e
  · rcases get_set_own e1 with ⟨_, h1⟩ | ⟨h1, f1⟩
    · exact absurd h1 (no _)
    · rcases get_set_own e2 with ⟨_, h2⟩ | ⟨h2, f2⟩
      · exact absurd h2 (no _)
      · rw [List.getElem?_set_ne (Ne.symm h1)] at e3
        rw [List.getElem?_set_ne (Ne.symm h2)] at e4
        exact E.dist j k a x' y' f1 f2 e3 e4
theorem EnvS.setP (E : EnvS K r0 G0 H0 r G H σ ρ) {i : Nat} {o : Option V} {p : PV} (h : SlotR K r G H o p) (no : ∀ x, p ≠ .own x) (nb : ∀ C a fs, p ≠ .obj C a fs := by intros; simp) : EnvS K r0 G0 H0 r G H (σ.set i o) (ρ.set i p) :=
  ⟨E.env.setP h no nb, E.gr, E.rr, E.rh, fun j a x e1 e2 => by
    rcases get_set_own e1 with ⟨_, h1⟩ | ⟨h1, f1⟩
    · exact absurd h1 (no _)
    · rw [List.getElem?_set_ne (Ne.symm h1)] at e2
      exact E.yg j a x f1 e2, fun j C a fs e => E.yo j C a fs (set_not_obj e nb).2⟩
end
section
variable {X : Cx} {st : Stmt} {rest body orelse : List Stmt} {t u tb : PTS} {e tg iter c a k v : Expr} {te ta ty tv tk : PT0} {pos pos' p p0 p1 p2 : Pos} {es : List Expr}
/-- x = range(e) -/
def sRng1 (i : Nat) (ta : PT0) : PTS := fun P ρ => ta ρ fun x => ∃ j, x = .int j ∧ P.nx (ρ.set i (.rng 0 j))
theorem ds_rng1 (i : Nat) {x : Str} (hm : X.mg "range" = none) (hN : X.N.Nodup) (ha : DE X a ta) (hg : Gl X "range" := by rfl) (hi : X.N[i]? = some x := by rfl) (hx : Loc X.env.scope x := by first | exact Or.inl rfl | exact Or.inr rfl) (hs : swapsWith (.Call (.Name "range" p) [a] [] p1) (some (.Name x pos')) pos.line X.env = pure false := by rfl)
    (hst : starEach [a] X.env = (false, eval a X.env) :: starEach [] X.env := by rfl) (hpl : (backTo p1 (starEach [] X.env)).any (·.1) = false := by rfl)
    (hf : X.fn x = true ∨ X.env.scope.names.lookup x = some .local := by first | exact .inl rfl | exact .inr rfl) : DS X (.Assign [.Name x pos'] (.Call (.Name "range" p) [a] [] p1) pos) (sRng1 i ta) :=
  PS.weak (ps_set hN hi hx (pe_callTy cr_range1 hg hm boot_range (pa_cons ha pa_nil hst) (he := hst) (hpl := hpl)) hs hf) fun Dn σ H ⟨r0, G0, H0, r, G, ρ, P, E, p, q⟩ => ⟨r, G, ρ, _, E.env, p, fun v d G1 H1 ⟨j, ej, p1⟩ W1 R1 => by
    subst ej
    cases R1
    refine ⟨j, rfl, fun c hc => ?_⟩
    have E1 := E.grow W1
    have W2 := E1.env.st.lay (o := .rng 0 j) hc
    exact q.nx _ _ _ _ _ p1 ((E1.grow W2).setP ⟨c, rfl, upd_same⟩ fun _ z => nomatch z)⟩
/-- for .. in x, x a range kept -/
def dIterR (i : Nat) : PTI := fun ρ P => ∃ lo hi, ρ[i]? = some (.rng lo hi) ∧ (-1000000 ≤ lo ∧ lo ≤ 1000000 ∧ -1000000 ≤ hi ∧ hi ≤ 1000000) ∧ P (rangeD lo (hi - lo).toNat)
theorem di_rngV (i : Nat) {x : Str} (hN : X.N[i]? = some x := by rfl) (hv : Vis X.env.scope x := by first | exact Or.inl rfl | exact Or.inr (Or.inl rfl) | exact Or.inr (Or.inr rfl)) (hd : (x == ("__debug__" : Str)) = false := by decide)
    (hcd : (x == ("__classdict__" : Str)) = false := by decide) : DI X tg (.Name x pos) (dIterR i) := PI.weak (pi_rngV (pe_var hN hv hd hcd)) fun σ H R ⟨r, G, ρ, P, E, ⟨lo, hi, ex, b, p⟩, q⟩ => by
  obtain ⟨o, h1, a, rfl, h2⟩ := E.slot i _ ex
  exact ⟨.ref a, h1, a, lo, hi, rfl, E.st.gh _ _ h2, by omega, q _ _ G H p E.st.grow (itr_range (by rw [sizeLine_eq]; omega))⟩
/-- x, y = [m], [n] -/
def sOwn2 (i j : Nat) (a b : Int) : PTS := fun P ρ => i < ρ.length ∧ j < ρ.length ∧ P.nx ((ρ.set i (.own (.list [.int a]))).set j (.own (.list [.int b])))
theorem ds_own2 (i j : Nat) {x y : Str} {m n : Int} {px py pt pa1 pa2 pc1 pc2 : Pos} {kt k2 kc1 kc2 pt2} (hc : X.calm = true) (hN : X.N.Nodup) (hi : X.N[i]? = some x := by rfl) (hj : X.N[j]? = some y := by rfl) (hij : i ≠ j := by decide)
    (hx : X.env.scope.names.lookup x = some .local := by rfl) (hy : X.env.scope.names.lookup y = some .local := by rfl)
    (hw : swappedStores [.Tuple [.Name x px, .Name y py] kt pt] (.Tuple [.List [.Constant (.int m) kc1 pc1] pa1, .List [.Constant (.int n) kc2 pc2] pa2] k2 pt2) X.env = pure (some [x, y]) := by rfl)
    (hs : swapsWithSole [.Tuple [.Name x px, .Name y py] kt pt] (.Tuple [.List [.Constant (.int m) kc1 pc1] pa1, .List [.Constant (.int n) kc2 pc2] pa2] k2 pt2) pos.line X.env = pure false := by rfl)
    (h1 : starEach [.List [.Constant (.int m) kc1 pc1] pa1, .List [.Constant (.int n) kc2 pc2] pa2] X.env = (false, eval (.List [.Constant (.int m) kc1 pc1] pa1) X.env) :: starEach [.List [.Constant (.int n) kc2 pc2] pa2] X.env := by rfl)
    (h2 : starEach [.List [.Constant (.int n) kc2 pc2] pa2] X.env = (false, eval (.List [.Constant (.int n) kc2 pc2] pa2) X.env) :: starEach [] X.env := by rfl)
    (h3 : starEach [.Constant (.int m) kc1 pc1] X.env = (false, eval (.Constant (.int m) kc1 pc1) X.env) :: starEach [] X.env := by rfl) (h4 : starEach [.Constant (.int n) kc2 pc2] X.env = (false, eval (.Constant (.int n) kc2 pc2) X.env) :: starEach [] X.env := by rfl) :
    DS X (.Assign [.Tuple [.Name x px, .Name y py] kt pt] (.Tuple [.List [.Constant (.int m) kc1 pc1] pa1, .List [.Constant (.int n) kc2 pc2] pa2] k2 pt2) pos) (sOwn2 i j m n) :=
  PS.weak (ps_par hc hN hi hj hij hx hy (pa_cons (pe_lst (pa_cons pe_int pa_nil h3)) (pa_cons (pe_lst (pa_cons pe_int pa_nil h4)) pa_nil h2) h1) hw hs) fun Dn σ H ⟨r0, G0, H0, r, G, ρ, P, E, ⟨li, lj, p⟩, q⟩ =>
    ⟨by show 1 ≤ sizeLine; decide, fun c hc => ⟨by show 1 ≤ sizeLine; decide, fun d hd => ⟨_, _, rfl, by
      have E1 := E.take (i := i) hc (.lst upd_same (.cons (.int m) .nil)) li
      have E2 := E1.take (i := j) hd (.lst upd_same (.cons (.int n) .nil)) (by simpa using lj)
      exact q.nx _ _ _ _ _ p E2⟩⟩⟩
end

/-! ### dicts by ints and texts -/
section
variable {α : Type}
def getA (l : List (Key × α)) (k : Key) : Option α := (l.find? fun kv => decide (kv.1 = k)).map (·.2)
def hasA (l : List (Key × α)) (k : Key) : Bool := l.any fun kv => decide (kv.1 = k)
def putA (l : List (Key × α)) (k : Key) (v : α) : List (Key × α) := if hasA l k = true then l.map (fun kv => if kv.1 = k then (kv.1, v) else kv) else l ++ [(k, v)]
theorem hasA_get (k : Key) : ∀ l : List (Key × α), hasA l k = (getA l k).isSome
  | [] => rfl
  | p :: l => by
    have ih := hasA_get k l
    unfold hasA getA at ih ⊢
    rw [List.any_cons, List.find?_cons]
    by_cases h : p.1 = k
    · simp [h]
    · simp [h, ih]
end
def kd (l : List (Key × Dt)) : Dt := .dict (l.map fun p => (keyD p.1, p.2))
theorem keyD_inj {a b : Key} (h : keyD a = keyD b) : a = b := by
  cases a <;> cases b <;> simp [keyD] at h <;> rw [h]
/-- what stands in a dict -/
inductive RepA (K : Fg) (G : Hp) : List (Key × V) → List (Key × Dt) → Prop
  | nil : RepA K G [] []
  | cons {k : Key} {v : V} {d : Dt} {kvs : List (Key × V)} {l : List (Key × Dt)} : Rep K G v d → RepA K G kvs l → RepA K G ((k, v) :: kvs) ((k, d) :: l)
section
variable {K : Fg} {G G' : Hp}
theorem repK_of : ∀ {kvs : List (Key × V)} {l : List (Key × Dt)}, RepA K G kvs l → RepK K G kvs (l.map fun p => (keyD p.1, p.2))
  | _, _, .nil => .nil
  | _, _, .cons r t => .cons r (repK_of t)
theorem repA_of' : ∀ {kvs : List (Key × V)} {ds : List (Dt × Dt)}, RepK K G kvs ds → ∀ l : List (Key × Dt), ds = l.map (fun p => (keyD p.1, p.2)) → RepA K G kvs l
  | _, _, .nil, l, e => by
    have : l = [] := List.map_eq_nil_iff.mp e.symm
    subst this
    exact .nil
  | _, _, .cons r t, [], e => by cases e
  | _, _, .cons r t, p :: l, e => by
    rw [List.map_cons] at e
    have e1 := (List.cons.inj e).1
    have e2 := (List.cons.inj e).2
    have k1 := keyD_inj (Prod.mk.inj e1).1
    have k2 := (Prod.mk.inj e1).2
    subst k2
    obtain ⟨k, d⟩ := p
    cases k1
    exact .cons r (repA_of' t l e2)
theorem repA_of {kvs : List (Key × V)} {l : List (Key × Dt)} (h : RepK K G kvs (l.map fun p => (keyD p.1, p.2))) : RepA K G kvs l := repA_of' h l rfl
theorem RepA.keys : ∀ {kvs : List (Key × V)} {l : List (Key × Dt)}, RepA K G kvs l → kvs.map (·.1) = l.map (·.1)
  | _, _, .nil => rfl
  | _, _, .cons _ t => by simp [RepA.keys t]
theorem RepA.length {kvs : List (Key × V)} {l : List (Key × Dt)} (h : RepA K G kvs l) : kvs.length = l.length := by
  have := congrArg List.length h.keys
  simpa using this
theorem RepA.mono (g : Same G G') : ∀ {kvs : List (Key × V)} {l : List (Key × Dt)}, RepA K G kvs l → RepA K G' kvs l
  | _, _, .nil => .nil
  | _, _, .cons r t => .cons (r.mono g) (RepA.mono g t)
theorem RepA.get : ∀ {kvs : List (Key × V)} {l : List (Key × Dt)} (k : Key), RepA K G kvs l → (getA l k = none ∧ valV kvs k = none) ∨ ∃ v d, getA l k = some d ∧ valV kvs k = some v ∧ Rep K G v d
  | _, _, k, .nil => .inl ⟨rfl, rfl⟩
  | _, _, k, .cons (k := k') (v := v) (d := d) (kvs := kvs) (l := l) r t => by
    by_cases h : k' = k
    · subst h
      exact .inr ⟨v, d, by simp [getA, List.find?_cons], valV_pos rfl, r⟩
    · rcases RepA.get k t with ⟨h1, h2⟩ | ⟨v, d, h1, h2, h3⟩
      · exact .inl ⟨by simpa [getA, List.find?_cons, h] using h1, by rw [valV_neg h]; exact h2⟩
      · exact .inr ⟨v, d, by simpa [getA, List.find?_cons, h] using h1, by rw [valV_neg h]; exact h2, h3⟩
theorem RepA.any : ∀ {kvs : List (Key × V)} {l : List (Key × Dt)} (k : Key), RepA K G kvs l → (kvs.any fun kv => decide (kv.1 = k)) = hasA l k
  | _, _, _, .nil => rfl
  | _, _, k, .cons r t => by
    have ih := RepA.any k t
    unfold hasA at ih ⊢
    simp only [List.any_cons, ih]
theorem RepA.repl {v : V} {d : Dt} (k : Key) (h : Rep K G v d) : ∀ {kvs : List (Key × V)} {l : List (Key × Dt)}, RepA K G kvs l → RepA K G (kvs.map fun kv => if kv.1 = k then (kv.1, v) else kv) (l.map fun kv => if kv.1 = k then (kv.1, d) else kv)
  | _, _, .nil => .nil
  | _, _, .cons (k := k') r t => by
    simp only [List.map_cons]
    by_cases e : k' = k
    · rw [if_pos e, if_pos e]; exact .cons h (RepA.repl k h t)
    · rw [if_neg e, if_neg e]; exact .cons r (RepA.repl k h t)
theorem RepA.snoc {k : Key} {v : V} {d : Dt} (h : Rep K G v d) : ∀ {kvs : List (Key × V)} {l : List (Key × Dt)}, RepA K G kvs l → RepA K G (kvs ++ [(k, v)]) (l ++ [(k, d)])
  | _, _, .nil => .cons h .nil
  | _, _, .cons r t => .cons r (RepA.snoc h t)
theorem RepA.put {k : Key} {v : V} {d : Dt} (h : Rep K G v d) {kvs : List (Key × V)} {l : List (Key × Dt)} (t : RepA K G kvs l) : RepA K G (putK kvs k v) (putA l k d) := by
  unfold putK putA
  rw [t.any k]
  split
  · exact t.repl k h
  · exact t.snoc h
theorem rep_key {v : V} {k : Key} (h : Rep K G v (keyD k)) : v = kV k := by
  cases k <;> cases h <;> rfl
theorem kd_mark {l : List (Key × Dt)} {x : List (Dt × Dt)} (e : (l.map fun p => (keyD p.1, p.2)) = markE :: x) : False := by
  cases l with
  | nil => cases e
  | cons p l =>
    rw [List.map_cons] at e
    have h := (List.cons.inj e).1
    have h2 := (Prod.mk.inj h).1
    cases hk : p.1 <;> rw [hk] at h2 <;> cases h2
theorem rep_kd {v : V} {l : List (Key × Dt)} (h : Rep K G v (kd l)) : ∃ a o kvs, v = .ref a ∧ G a = some (.frz o (.dK kvs)) ∧ RepA K G kvs l := by
  unfold kd at h
  generalize e : (l.map fun p => (keyD p.1, p.2)) = ds at h
  cases h with
  | dic h1 h2 =>
    subst e
    exact ⟨_, _, _, rfl, h1, repA_of h2⟩
  | dicT h1 h2 => exact (kd_mark e).elim
end
end PD
namespace PD
open PySem PySem.Spec PyProof.Rows L2

section
variable {X : Cx}
/-! ### sorted, of texts, any number of them; of a dict by texts -/
theorem cr_sortSs : CallR X (.builtin "sorted") (fun vs H Q => ∃ (a : Addr) (xs : List Str), vs = [V.ref a] ∧ SqL X.K H a (xs.map V.str) ∧
    ∀ (ys : List Str) (p : Addr), ys.Perm xs → sortedS ys = true → H p = none → Q (.ref p) (upd H p (.lst (ys.map V.str)))) := by
  intro pins s σ H vs us Q I r h
  obtain ⟨a, xs, rfl, hs, q⟩ := h
  obtain ⟨its, rv, hl, hz⟩ := I.list hs
  rw [Vals.ref1 r]
  refine PyProof.Rows.sorted_strsAny hl.isList rv.strs (by rw [← rv.length]; exact hz) fun out ys k1 k2 k3 => ?_
  obtain ⟨ep, hnew⟩ := PyProof.Rows.sortedAll_at s.heap its out
  have small : (ys.map V.str).length ≤ sizeLine := by
    rw [List.length_map, k2.length_eq]
    simpa using hz
  have laid := I.laid (a := s.heap.objs.size + 1) (o := .lst (ys.map V.str)) (t' := s.toks) (h' := PyProof.Rows.sortedAll s.heap its out) (fun _ _ => PyProof.Rows.sortedAll_old) (Nat.le_succ _) ⟨small, out.toList, ep, vals_of_strs k1, hnew⟩
  exact ⟨.ref (s.heap.objs.size + 1), _, laid, rfl, q ys _ k2 k3 (I.hok.fresh (Nat.le_succ _))⟩
theorem strs_by : ∀ {us : List Value} {ks : List Str}, us.length = ks.length → (∀ (j : Nat) (v : Value), us[j]? = some v → ∃ (k : Str) (t : Tok), ks[j]? = some k ∧ v = .str k t) → StrsAre us ks
  | [], [], _, _ => .nil
  | [], _ :: _, h, _ => by simp at h
  | _ :: _, [], h, _ => by simp at h
  | u :: us, k :: ks, h, e => by
    obtain ⟨k', t, e1, e2⟩ := e 0 u rfl
    cases e1
    subst e2
    exact .cons _ _ (strs_by (by simpa using h) fun j v hj => by simpa using e (j + 1) v (by simpa using hj))
theorem cr_sortDS (hcalm : X.calm = true) : CallR X (.builtin "sorted") (fun xs H Q => ∃ (a : Addr) (kvs : List (Key × V)) (ks : List Str), xs = [.ref a] ∧ Rd H a (.dK kvs) ∧ kvs.map (·.1) = ks.map Sum.inr ∧
    ∀ (ys : List Str) (p : Addr), ys.Perm ks → sortedS ys = true → H p = none → Q (.ref p) (upd H p (.lst (ys.map V.str)))) := by
  intro pins s σ H xs us Q I r ⟨a, kvs, ks, ex, hd, hks, q⟩
  subst ex
  rw [Vals.ref1 r]
  obtain ⟨z, lo, vs, rel, dd⟩ := dk_rd I.hok hd
  obtain ⟨ep, hat⟩ := dd.dictAt
  have kk : vs.map (·.1) = ks.map Sum.inr := rel.keys.symm.trans hks
  have kl : vs.length = ks.length := by simpa using congrArg List.length kk
  have kz : vs.length ≤ sizeLine := by rw [← rel.length]; exact z
  refine Calls.call_function_entry PyProof.Rows.kind_sorted PyProof.Rows.plain_sorted PyProof.Rows.entry_sorted (PyProof.Rows.args_sorted1 _) ?_
  unfold Builtin.«sorted»
  refine wpAny_bind (m := checkCount "sorted" 1 1 _) (wpAny_pure (wpAny_bind (PySem.W.kdu_collect (A := X.A.in1) (PySem.W.kdl_dict (knd := mixKind X.prog X.w) (kvs := vs) (ep := ep) lo) (I.ok.hd hcalm) hat kz fun h' tk acc hk hacc => ?_)))
  have al : acc.toList.length = ks.length := by rw [Array.length_toList, hacc.1, kl]
  have sa : StrsAre acc.toList ks := strs_by al fun j v e => by
    obtain ⟨k, x, e1, e2⟩ := hacc.2 j v (by rw [← Array.getElem?_toList]; exact e)
    have e3 : (ks.map Sum.inr)[j]? = some k := by rw [← kk, List.getElem?_map, e1]; rfl
    rw [List.getElem?_map, Option.map_eq_some_iff] at e3
    obtain ⟨y, e4, e5⟩ := e3
    subst e5
    obtain ⟨t, ev⟩ := Value.isStrOf_shape (x := y) (v := v) e2
    exact ⟨y, t, e4, ev⟩
  have I1 : Inv X pins σ H { s with heap := h', toks := tk } := I.kept hk
  have az : acc.toList.length ≤ sizeLine := by rw [al, ← kl]; exact kz
  refine wpAny_bind (wpAny_newList ?_ az)
  have ho := Heap.get?_push_size h' (o := seqObj "list" acc.toList.toArray 0) rfl
  show wpAny _ _ _ _ _ { s with heap := h'.push (seqObj "list" acc.toList.toArray 0), toks := tk }
  refine wpAny_bind (wpAny_holding (wpAny_call_entry PyProof.Rows.slot_list_sort ⟨_, ho, rfl⟩ PyProof.Rows.entry_list_sort
    (list_sort_treeKAny strKind_oneLt (s := { s with heap := h'.push (seqObj "list" acc.toList.toArray 0), toks := tk }) ho sa.keysOf (fun v₁ v₂ rest e => keyKind_strs (by rw [← e]; exact sa)) az fun st' hp hs => ⟨_, rfl, ?_⟩) (PyProof.Rows.args_list_sort _)))
  obtain ⟨ys, g1, g2, g3⟩ := sorted_out_str sa hp hs
  obtain ⟨e', he'⟩ := PyProof.Rows.sortedHeap_at (vs := acc.toList) (out := (arrOf st').map (·.2)) ho
  have yz : (ys.map V.str).length ≤ sizeLine := by
    rw [List.length_map, g2.length_eq, ← al]
    exact az
  have laid := I1.laid (a := h'.objs.size) (o := .lst (ys.map V.str)) (t' := tk) (h' := PyProof.Rows.sortedHeap (h'.push (seqObj "list" acc.toList.toArray 0)) h'.objs.size acc.toList ((arrOf st').map (·.2))) (fun b u e => by
    have hb : b < h'.objs.size := Heap.lt_size e
    rw [PyProof.Rows.sortedHeap_old (Nat.ne_of_lt hb) (by rw [size_push']; exact Nat.lt_succ_of_lt hb)]
    exact Heap.get?_push_of_some _ e) (Nat.le_refl _) ⟨yz, ((arrOf st').map (·.2)).toList, e', vals_of_strs g1, by rw [Array.toArray_toList]; exact he'⟩
  exact wpAny_pure ⟨_, rfl, .ref h'.objs.size, _, laid, rfl, q ys _ g2 g3 (I1.hok.fresh (Nat.le_refl _))⟩
def fSortS : FC := fun ds P => match ds with
  | [.list xs] => ∃ ss, dStrs xs = some ss ∧ ∀ ys : List Str, ys.Perm ss → sortedS ys = true → P (.list (ys.map .str))
  | _ => False
theorem dc_sortS : DC X (.builtin "sorted") fSortS := dc_list1 (one_list fun ds P p => by unfold fSortS at p; split at p <;> simp_all) fun pins s σ H us Q r G a vs xs P I rv S e r1 ⟨ss, hb, p⟩ q => by
  rw [strs_eq hb] at r1
  have e1 := r1.strs
  subst e1
  exact cr_sortSs pins s σ H _ us Q I rv ⟨a, ss, rfl, SqL.of (S.gh _ _ e), fun ys c h1 h2 hc => q _ _ _ _ (p ys h1 h2) (S.lay hc) (.lst upd_same Reps.of_strs)⟩
def strK (ss : List Str) : List (Key × Dt) → Prop := fun l => l.map (·.1) = ss.map Sum.inr
def fSortDS : FC := fun ds P => ∃ l ss, ds = [kd l] ∧ strK ss l ∧ ∀ ys : List Str, ys.Perm ss → sortedS ys = true → P (.list (ys.map .str))
theorem dc_sortDS (hc : X.calm = true) : DC X (.builtin "sorted") fSortDS := by
  intro pins s σ H xs us Q I rv ⟨r, G, ds, P, S, hd, ⟨l, ss, e, hs, p⟩, q⟩
  subst e
  cases hd with
  | cons h1 h2 =>
    cases h2
    obtain ⟨a, o, kvs, rfl, hg, ra⟩ := rep_kd h1
    exact cr_sortDS hc pins s σ H _ us Q I rv ⟨a, kvs, ss, rfl, .inr ⟨o, S.gh _ _ hg⟩, ra.keys.trans hs, fun ys c h1 h2 hc => q _ _ _ _ (p ys h1 h2) (S.lay hc) (.lst upd_same Reps.of_strs)⟩
/-- list(d) -/
def fListD : FC := fun ds P => ∃ l, ds = [kd l] ∧ P (.list (l.map fun p => keyD p.1))
theorem reps_keys {K : Fg} {G : Hp} : ∀ l : List (Key × Dt), ∀ kvs : List (Key × V), RepA K G kvs l → Reps K G (kvs.map fun kv => kV kv.1) (l.map fun p => keyD p.1)
  | _, _, .nil => .nil
  | _, _, .cons (k := k) r t => .cons (by cases k; exact .int _; exact .str _) (reps_keys _ _ t)
theorem dc_listD (hc : X.calm = true) : DC X (.type "list") fListD := by
  intro pins s σ H xs us Q I rv ⟨r, G, ds, P, S, hd, ⟨l, e, p⟩, q⟩
  subst e
  cases hd with
  | cons h1 h2 =>
    cases h2
    obtain ⟨a, o, kvs, rfl, hg, ra⟩ := rep_kd h1
    exact call_listD hc pins s σ H _ us Q I rv ⟨a, kvs, rfl, .inr ⟨o, S.gh _ _ hg⟩, fun c hc => q _ _ _ _ p (S.lay hc) (.lst upd_same ((reps_keys _ _ ra).mono (S.lay hc).g))⟩
end
section
variable {X : Cx} {st : Stmt} {e tg iter c a b k v : Expr} {te ta tb ty tv tk td : PT0} {pos pos' p p0 p1 p2 : Pos} {es : List Expr}
theorem own_kd {K : Fg} {r : Option Addr} {G H : Hp} {σ : L2.St} {ρ : List PV} (E : EnvR K r G H σ ρ) {i : Nat} {l : List (Key × Dt)} (e : ρ[i]? = some (.own (kd l))) : ∃ a kvs, σ[i]? = some (some (.ref a)) ∧ H a = some (.dK kvs) ∧ RepA K G kvs l := by
  obtain ⟨a, h1, _, _, h2⟩ := E.getO e
  unfold kd at h2
  generalize eq : (l.map fun p => (keyD p.1, p.2)) = ds at h2
  cases h2 with
  | dic h3 h4 =>
    subst eq
    exact ⟨a, _, h1, h3, repA_of h4⟩
  | dicT h3 h4 => exact (kd_mark eq).elim
/-- x[k] = e, x a dict of one's own -/
def sPutK (i : Nat) (tk tv : PT0) : PTS := fun P ρ => tv ρ fun y => ∃ l, ρ[i]? = some (.own (kd l)) ∧ tk ρ fun x => ∃ k, x = keyD k ∧ l.length < sizeLine ∧ P.nx (ρ.set i (.own (kd (putA l k y))))
theorem ds_putK (i : Nat) {x : Str} (hu : X.A.units + 1 < cLine) (hk : DE X k tk) (hv : DE X v tv) (hi : X.N[i]? = some x := by rfl) (hvs : Vis X.env.scope x := by first | exact Or.inl rfl | exact Or.inr (Or.inl rfl) | exact Or.inr (Or.inr rfl)) (hd : (x == ("__debug__" : Str)) = false := by decide)
    (hcd : (x == ("__classdict__" : Str)) = false := by decide) (hs : swapsWith v (some (.Subscript (.Name x p0) k p1)) pos.line X.env = pure false := by rfl) : DS X (.Assign [.Subscript (.Name x p0) k p1] v pos) (sPutK i tk tv) :=
  PS.weak (ps_dput hu (pe_var hi hvs hd hcd) hk hv hs) fun Dn σ H ⟨r0, G0, H0, r, G, ρ, P, E, p, q⟩ => ⟨r, G, ρ, _, E.env, p, fun w y G1 H1 ⟨l, el, p1⟩ W1 R1 => by
    have E1 := E.grow W1
    obtain ⟨a, kvs, h1, h2, h3⟩ := own_kd E1.env el
    refine ⟨.ref a, h1, r, G1, ρ, _, E1.env, p1, fun u x G2 H2 ⟨key, ek, hl, p2⟩ W2 R2 => ?_⟩
    have E2 := E1.grow W2
    obtain ⟨a', kvs', h1', h2', h3'⟩ := own_kd E2.env el
    rw [h1] at h1'
    cases h1'
    subst ek
    rw [rep_key R2]
    exact ⟨a, _, rfl, .k h2' (by rw [h3'.length]; exact hl), q.nx _ _ _ _ _ p2 (E2.put el h1 (.dic upd_same (repK_of (h3'.put (R1.mono W2.g)))))⟩⟩
/-- k in x, k not in x: x a dict of one's own -/
def dInO (i : Nat) (n : Bool) (tk : PT0) : PT0 := fun ρ P => tk ρ fun x => ∃ l k, ρ[i]? = some (.own (kd l)) ∧ x = keyD k ∧ P (.bool (n != hasA l k))
theorem get_own {K : Fg} {G H : Hp} {a : Addr} {kvs : List (Key × V)} {l : List (Key × Dt)} (h : Rd H a (.dK kvs)) (r : RepA K G kvs l) (k : Key) : ∃ o, DGet H a (kV k) o ∧ o.isSome = hasA l k := by
  refine ⟨valV kvs k, .inl ⟨kvs, k, h, rfl, rfl⟩, ?_⟩
  rw [hasA_get]
  rcases r.get k with ⟨h1, h2⟩ | ⟨v, d, h1, h2, _⟩
  · rw [h1, h2]; rfl
  · rw [h1, h2]; rfl
theorem de_inO (i : Nat) {x : Str} (hu : X.A.units + 1 < cLine) (hk : DE X k tk) (hi : X.N[i]? = some x := by rfl) (hvs : Vis X.env.scope x := by first | exact Or.inl rfl | exact Or.inr (Or.inl rfl) | exact Or.inr (Or.inr rfl)) (hd : (x == ("__debug__" : Str)) = false := by decide)
    (hcd : (x == ("__classdict__" : Str)) = false := by decide) : DE X (.Compare k [.In] [.Name x p0] pos) (dInO i false tk) :=
  PE.weak (pe_cmp (pc_din hu hk (pe_var hi hvs hd hcd)) (by rfl)) fun σ H Q ⟨r, G, ρ, P, E, p, q⟩ => ⟨r, G, ρ, _, E, p, fun u x G1 H1 ⟨l, key, el, ek, p1⟩ W1 R1 => by
    subst ek
    have E1 := E.grow W1
    obtain ⟨a, kvs, h1, h2, h3⟩ := own_kd E1 el
    rw [rep_key R1]
    obtain ⟨o, ho, hb⟩ := get_own (.inl h2) h3 key
    exact ⟨.ref a, h1, a, o, rfl, ho, by rw [hb]; simpa using q _ _ _ _ p1 W1 (.bl _)⟩⟩
theorem de_notInO (i : Nat) {x : Str} (hu : X.A.units + 1 < cLine) (hk : DE X k tk) (hi : X.N[i]? = some x := by rfl) (hvs : Vis X.env.scope x := by first | exact Or.inl rfl | exact Or.inr (Or.inl rfl) | exact Or.inr (Or.inr rfl)) (hd : (x == ("__debug__" : Str)) = false := by decide)
    (hcd : (x == ("__classdict__" : Str)) = false := by decide) : DE X (.Compare k [.NotIn] [.Name x p0] pos) (dInO i true tk) :=
  PE.weak (pe_cmp (pc_dnotin hu hk (pe_var hi hvs hd hcd)) (by rfl)) fun σ H Q ⟨r, G, ρ, P, E, p, q⟩ => ⟨r, G, ρ, _, E, p, fun u x G1 H1 ⟨l, key, el, ek, p1⟩ W1 R1 => by
    subst ek
    have E1 := E.grow W1
    obtain ⟨a, kvs, h1, h2, h3⟩ := own_kd E1 el
    rw [rep_key R1]
    obtain ⟨o, ho, hb⟩ := get_own (.inl h2) h3 key
    exact ⟨.ref a, h1, a, o, rfl, ho, by rw [hb]; simpa using q _ _ _ _ p1 W1 (.bl _)⟩⟩
/-- .. a dict that is known -/
def dInD (n : Bool) (tk td : PT0) : PT0 := fun ρ P => tk ρ fun x => td ρ fun d => ∃ l k, d = kd l ∧ x = keyD k ∧ P (.bool (n != hasA l k))
theorem de_inD (hu : X.A.units + 1 < cLine) (hk : DE X k tk) (hd : DE X a td) (hm : behindInMarks .In a = false := by rfl) : DE X (.Compare k [.In] [a] pos) (dInD false tk td) :=
  PE.weak (pe_cmp (pc_din hu hk hd) hm) fun σ H Q ⟨r, G, ρ, P, E, p, q⟩ => ⟨r, G, ρ, _, E, p, fun u x G1 H1 p1 W1 R1 => ⟨r, G1, ρ, _, E.grow W1, p1, fun w d G2 H2 ⟨l, key, ed, ek, p2⟩ W2 R2 => by
    subst ek ed
    obtain ⟨c, o', kvs, rfl, hg, ra⟩ := rep_kd R2
    rw [rep_key R1]
    obtain ⟨o, ho, hb⟩ := get_own (.inr ⟨o', W2.gh _ _ hg⟩) ra key
    exact ⟨c, o, rfl, ho, by rw [hb]; simpa using q _ _ _ _ p2 (W1.trans W2) (.bl _)⟩⟩⟩
theorem de_notInD (hu : X.A.units + 1 < cLine) (hk : DE X k tk) (hd : DE X a td) (hm : behindInMarks .NotIn a = false := by rfl) : DE X (.Compare k [.NotIn] [a] pos) (dInD true tk td) :=
  PE.weak (pe_cmp (pc_dnotin hu hk hd) hm) fun σ H Q ⟨r, G, ρ, P, E, p, q⟩ => ⟨r, G, ρ, _, E, p, fun u x G1 H1 p1 W1 R1 => ⟨r, G1, ρ, _, E.grow W1, p1, fun w d G2 H2 ⟨l, key, ed, ek, p2⟩ W2 R2 => by
    subst ek ed
    obtain ⟨c, o', kvs, rfl, hg, ra⟩ := rep_kd R2
    rw [rep_key R1]
    obtain ⟨o, ho, hb⟩ := get_own (.inr ⟨o', W2.gh _ _ hg⟩) ra key
    exact ⟨c, o, rfl, ho, by rw [hb]; simpa using q _ _ _ _ p2 (W1.trans W2) (.bl _)⟩⟩⟩
/-- d[k] -/
def dGetD (td tk : PT0) : PT0 := fun ρ P => td ρ fun d => tk ρ fun x => ∃ l k y, d = kd l ∧ x = keyD k ∧ getA l k = some y ∧ P y
theorem de_getD (hu : X.A.units + 1 < cLine) (hd : DE X a td) (hk : DE X k tk) (hs : NoSl k := by exact fun _ _ => rfl) : DE X (.Subscript a k pos) (dGetD td tk) :=
  PE.weak (pe_dget hu hd hk hs) fun σ H Q ⟨r, G, ρ, P, E, p, q⟩ => ⟨r, G, ρ, _, E, p, fun u d G1 H1 p1 W1 R1 => ⟨r, G1, ρ, _, E.grow W1, p1, fun w x G2 H2 ⟨l, key, y, ed, ek, hy, p2⟩ W2 R2 => by
    subst ek ed
    obtain ⟨c, o', kvs, rfl, hg, ra⟩ := rep_kd (R1.mono W2.g)
    rw [rep_key R2]
    rcases ra.get key with ⟨h1, _⟩ | ⟨v', d', h1, h2, h3⟩
    · rw [hy] at h1; cases h1
    · rw [hy] at h1; cases h1
      exact ⟨c, v', rfl, .inl ⟨kvs, key, .inr ⟨o', W2.gh _ _ hg⟩, rfl, h2.symm⟩, q _ _ _ _ p2 (W1.trans W2) h3⟩⟩⟩
/-- for .. in d -/
def dIterD (te : PT0) : PTI := fun ρ P => te ρ fun d => ∃ l, d = kd l ∧ P (l.map fun p => keyD p.1)
theorem repA_at {K : Fg} {G : Hp} : ∀ {kvs : List (Key × V)} {l : List (Key × Dt)} {i : Nat} {k : Key} {v : V}, RepA K G kvs l → kvs[i]? = some (k, v) → ∃ d, l[i]? = some (k, d)
  | _, _, _, _, _, .nil, e => by simp at e
  | _, _, 0, _, _, .cons _ _, e => by simp at e; exact ⟨_, by simp [e.1]; rfl⟩
  | _, _, i + 1, _, _, .cons _ t, e => by
    obtain ⟨d, h⟩ := repA_at (i := i) t (by simpa using e)
    exact ⟨d, by simpa using h⟩
theorem itr_dict {K : Fg} {G : Hp} {a : Addr} {o : Obj} {kvs : List (Key × V)} {l : List (Key × Dt)} (hg : G a = some (.frz o (.dK kvs))) (R : RepA K G kvs l) (hz : l.length ≤ sizeLine) : ItR K G (Itk a o kvs) (l.map fun p => keyD p.1) := by
  refine ⟨by simpa using hz, fun H => H a = some (.frz o (.dK kvs)), fun i H x H' => H' = H ∧ ∃ k v, kvs[i]? = some (k, v) ∧ x = kV k, ?_, fun H g => g _ _ hg, fun i H v H' x Gc r g S hx hy => ?_⟩
  · rw [List.length_map, ← R.length]
    exact walk_keys
  · obtain ⟨h1, k, w, h2, h3⟩ := hy
    subst h1 h3
    obtain ⟨d, e⟩ := repA_at R h2
    rw [List.getElem?_map, e] at hx
    cases hx
    refine ⟨Gc, S.grow, ?_⟩
    cases k
    · exact .int _
    · exact .str _
theorem pe_small {X : Cx} {e : Expr} {t : TE} (h : PE X e t) : PE X e (fun σ H Q => t σ H fun v H' => (∀ a o kvs, v = .ref a → H' a = some (.frz o (.dK kvs)) → kvs.length ≤ sizeLine) → Q v H') :=
  ⟨fun pins s σ H Q I q => thn (h.run pins s σ H _ I q) fun u s' ⟨v, H', I', rv, k⟩ => ⟨v, H', I', rv, k fun a o kvs _ e => (dk_rd I'.hok (.inr ⟨o, e⟩)).1⟩⟩
theorem di_dict (he : DE X e te) : DI X tg e (dIterD te) := PI.weak (pi_keys (pe_small he)) fun σ H R ⟨r, G, ρ, P, E, p, q⟩ => by
  refine ⟨r, G, ρ, _, E, p, fun v d G1 H1 ⟨l, ed, p1⟩ W1 R1 small => ?_⟩
  subst ed
  obtain ⟨c, o', kvs, rfl, hg, ra⟩ := rep_kd R1
  have hz : l.length ≤ sizeLine := by
    rw [← ra.length]
    exact small c o' kvs rfl (W1.gh _ _ hg)
  exact ⟨c, o', rfl, .inl ⟨kvs, W1.gh _ _ hg, q _ _ _ _ p1 W1 (itr_dict hg ra hz)⟩⟩
end
end PD
namespace PD
open PySem PySem.Spec PyProof.Rows L2
/-- list(text): its signs -/
def fListS : FC := fun ds P => ∃ z : Str, ds = [.str z] ∧ z.cps.size ≤ sizeLine ∧ P (.list (signs z))
theorem vals_signs {z : Str} : ∀ (l : List Nat) (us : List Value), us.length = l.length → (∀ (j : Nat) (v : Value), us[j]? = some v → ∃ (c : Nat) (t : Tok), l[j]? = some c ∧ v = .str ⟨#[c]⟩ t) → Vals (l.map fun c => V.str ⟨#[c]⟩) us
  | [], [], _, _ => .nil
  | [], _ :: _, h, _ => by simp at h
  | _ :: _, [], h, _ => by simp at h
  | c :: l, u :: us, h, e => by
    obtain ⟨c', t, e1, e2⟩ := e 0 u rfl
    cases e1
    subst e2
    exact .cons ⟨t, rfl⟩ (vals_signs (z := z) l us (by simpa using h) fun j v hj => by simpa using e (j + 1) v (by simpa using hj))
theorem reps_signs {K : Fg} {G : Hp} : ∀ l : List Nat, Reps K G (l.map fun c => V.str ⟨#[c]⟩) (l.map fun c => .str ⟨#[c]⟩)
  | [] => .nil
  | _ :: l => .cons (.str _) (reps_signs l)
theorem dc_listS {X : Cx} (hc : X.calm = true) : DC X (.type "list") fListS := by
  intro pins s σ H xs us Q I rv ⟨r, G, ds, P, S, hd, ⟨z, e, hz, p⟩, q⟩
  subst e
  cases hd with
  | cons h1 h2 =>
    cases h2; cases h1
    obtain ⟨u, rfl, t, rfl⟩ : ∃ u, us = [u] ∧ ∃ t, u = Value.str z t := by
      cases rv with
      | cons a b => cases b; obtain ⟨t, e⟩ := a; exact ⟨_, rfl, t, e⟩
    refine call_list_str (I.ok.hd hc) z t (fun h' tk acc c' hk hS hacc => ?_) hz
    have hv : Vals (z.cps.toList.map fun c => V.str ⟨#[c]⟩) acc.toList := vals_signs (z := z) _ _ (by simpa using hacc.1) fun j v hj => by
      obtain h := hacc.2 j v (by simpa using hj)
      obtain ⟨c, t', h1, h2⟩ := h
      exact ⟨c, t', by simpa using h1, h2⟩
    have lz : (z.cps.toList.map fun c => V.str ⟨#[c]⟩).length ≤ sizeLine := by simpa using hz
    have fr := I.hok.fresh (Nat.le_refl s.heap.objs.size)
    refine ⟨.ref s.heap.objs.size, upd H s.heap.objs.size (.lst (z.cps.toList.map fun c => V.str ⟨#[c]⟩)), I.laid (t' := tk) hk (Nat.le_refl _) ⟨lz, acc.toList, c', hv, by rw [Array.toArray_toList]; exact hS⟩, rfl, ?_⟩
    exact q _ _ _ _ p (S.lay fr) (.lst upd_same (reps_signs _))
section
variable {X : Cx} {pos p p0 : Pos}
/-- list(x), x a dict of one's own -/
def dListO (i : Nat) : PT0 := fun ρ P => ∃ l, ρ[i]? = some (.own (kd l)) ∧ P (.list (l.map fun p => keyD p.1))
theorem de_listO (i : Nat) {x : Str} (hc : X.calm = true) (hm : X.mg "list" = none) (hi : X.N[i]? = some x := by rfl) (hvs : Vis X.env.scope x := by first | exact Or.inl rfl | exact Or.inr (Or.inl rfl) | exact Or.inr (Or.inr rfl)) (hg : Gl X "list" := by rfl) (hd : (x == ("__debug__" : Str)) = false := by decide)
    (hcd : (x == ("__classdict__" : Str)) = false := by decide) (he : starEach [.Name x p0] X.env = (false, eval (.Name x p0) X.env) :: starEach [] X.env := by rfl) (hpl : (backTo pos (starEach [] X.env)).any (·.1) = false := by rfl) (hv : bootBuiltins "list" = some (.type "list") := by decide +kernel) :
    DE X (.Call (.Name "list" p) [.Name x p0] [] pos) (dListO i) := PE.weak (pe_callTy (call_listD hc) hg hm hv (pa_cons (pe_var hi hvs hd hcd) pa_nil he) (he := he) (hpl := hpl)) fun σ H Q ⟨r, G, ρ, P, E, ⟨l, e, p⟩, q⟩ => by
  obtain ⟨a, kvs, h1, h2, h3⟩ := own_kd E e
  exact ⟨.ref a, h1, a, kvs, rfl, .inl h2, fun c hc => q _ _ _ _ p (E.st.lay hc) (.lst upd_same ((reps_keys _ _ h3).mono (E.st.lay hc).g))⟩
end
end PD
namespace PD
open PySem PySem.Spec PyProof.Rows L2
section
variable {X : Cx} {st : Stmt} {e tg iter c a b k v : Expr} {te ta tb ty tv tk td : PT0} {pos pos' p p0 p1 p2 : Pos} {es : List Expr}
/-! ### k in x, as a test -/
theorem dt_inO (i : Nat) {x : Str} (hu : X.A.units + 1 < cLine) (hk : DE X k tk) (hi : X.N[i]? = some x := by rfl) (hvs : Vis X.env.scope x := by first | exact Or.inl rfl | exact Or.inr (Or.inl rfl) | exact Or.inr (Or.inr rfl)) (hd : (x == ("__debug__" : Str)) = false := by decide)
    (hcd : (x == ("__classdict__" : Str)) = false := by decide) : DT X (.Compare k [.In] [.Name x p0] pos) (dTest (dInO i false tk)) :=
  PT.weak (pt_cmp (pc_din hu hk (pe_var hi hvs hd hcd)) (by rfl)) fun σ H Q h0 => let ⟨r, G, ρ, P, E, p, q⟩ := lift_test h0; ⟨r, G, ρ, _, E, p, fun u x G1 H1 ⟨l, key, el, ek, p1⟩ W1 R1 => by
    subst ek
    have E1 := E.grow W1
    obtain ⟨a, kvs, h1, h2, h3⟩ := own_kd E1 el
    rw [rep_key R1]
    obtain ⟨o, ho, hb⟩ := get_own (.inl h2) h3 key
    exact ⟨.ref a, h1, a, o, rfl, ho, by rw [hb]; simpa using q _ _ _ _ p1 W1 (.bl _)⟩⟩
theorem dt_notInO (i : Nat) {x : Str} (hu : X.A.units + 1 < cLine) (hk : DE X k tk) (hi : X.N[i]? = some x := by rfl) (hvs : Vis X.env.scope x := by first | exact Or.inl rfl | exact Or.inr (Or.inl rfl) | exact Or.inr (Or.inr rfl)) (hd : (x == ("__debug__" : Str)) = false := by decide)
    (hcd : (x == ("__classdict__" : Str)) = false := by decide) : DT X (.Compare k [.NotIn] [.Name x p0] pos) (dTest (dInO i true tk)) :=
  PT.weak (pt_cmp (pc_dnotin hu hk (pe_var hi hvs hd hcd)) (by rfl)) fun σ H Q h0 => let ⟨r, G, ρ, P, E, p, q⟩ := lift_test h0; ⟨r, G, ρ, _, E, p, fun u x G1 H1 ⟨l, key, el, ek, p1⟩ W1 R1 => by
    subst ek
    have E1 := E.grow W1
    obtain ⟨a, kvs, h1, h2, h3⟩ := own_kd E1 el
    rw [rep_key R1]
    obtain ⟨o, ho, hb⟩ := get_own (.inl h2) h3 key
    exact ⟨.ref a, h1, a, o, rfl, ho, by rw [hb]; simpa using q _ _ _ _ p1 W1 (.bl _)⟩⟩
theorem dt_inD (hu : X.A.units + 1 < cLine) (hk : DE X k tk) (hd : DE X a td) (hm : behindInMarks .In a = false := by rfl) : DT X (.Compare k [.In] [a] pos) (dTest (dInD false tk td)) :=
  PT.weak (pt_cmp (pc_din hu hk hd) hm) fun σ H Q h0 => let ⟨r, G, ρ, P, E, p, q⟩ := lift_test h0; ⟨r, G, ρ, _, E, p, fun u x G1 H1 p1 W1 R1 => ⟨r, G1, ρ, _, E.grow W1, p1, fun w d G2 H2 ⟨l, key, ed, ek, p2⟩ W2 R2 => by
    subst ek ed
    obtain ⟨c, o', kvs, rfl, hg, ra⟩ := rep_kd R2
    rw [rep_key R1]
    obtain ⟨o, ho, hb⟩ := get_own (.inr ⟨o', W2.gh _ _ hg⟩) ra key
    exact ⟨c, o, rfl, ho, by rw [hb]; simpa using q _ _ _ _ p2 (W1.trans W2) (.bl _)⟩⟩⟩
theorem dt_notInD (hu : X.A.units + 1 < cLine) (hk : DE X k tk) (hd : DE X a td) (hm : behindInMarks .NotIn a = false := by rfl) : DT X (.Compare k [.NotIn] [a] pos) (dTest (dInD true tk td)) :=
  PT.weak (pt_cmp (pc_dnotin hu hk hd) hm) fun σ H Q h0 => let ⟨r, G, ρ, P, E, p, q⟩ := lift_test h0; ⟨r, G, ρ, _, E, p, fun u x G1 H1 p1 W1 R1 => ⟨r, G1, ρ, _, E.grow W1, p1, fun w d G2 H2 ⟨l, key, ed, ek, p2⟩ W2 R2 => by
    subst ek ed
    obtain ⟨c, o', kvs, rfl, hg, ra⟩ := rep_kd R2
    rw [rep_key R1]
    obtain ⟨o, ho, hb⟩ := get_own (.inr ⟨o', W2.gh _ _ hg⟩) ra key
    exact ⟨c, o, rfl, ho, by rw [hb]; simpa using q _ _ _ _ p2 (W1.trans W2) (.bl _)⟩⟩⟩

/-- x, y = [m], [n], cells -/
theorem ds_own2c (i j : Nat) {x y : Str} {m n : Int} {px py pt pa1 pa2 pc1 pc2 : Pos} {kt k2 kc1 kc2 pt2} (hc : X.calm = true) (hN : X.N.Nodup) (hi : X.N[i]? = some x := by rfl) (hj : X.N[j]? = some y := by rfl) (hij : i ≠ j := by decide)
    (hx : Loc X.env.scope x := by first | exact Or.inl rfl | exact Or.inr rfl) (hy : Loc X.env.scope y := by first | exact Or.inl rfl | exact Or.inr rfl)
    (fx : X.fn x = true ∨ X.env.scope.names.lookup x = some .local := by first | exact .inl rfl | exact .inr rfl) (fy : X.fn y = true ∨ X.env.scope.names.lookup y = some .local := by first | exact .inl rfl | exact .inr rfl)
    (hw : swappedStores [.Tuple [.Name x px, .Name y py] kt pt] (.Tuple [.List [.Constant (.int m) kc1 pc1] pa1, .List [.Constant (.int n) kc2 pc2] pa2] k2 pt2) X.env = pure none := by rfl)
    (hs : swapsWithSole [.Tuple [.Name x px, .Name y py] kt pt] (.Tuple [.List [.Constant (.int m) kc1 pc1] pa1, .List [.Constant (.int n) kc2 pc2] pa2] k2 pt2) pos.line X.env = pure false := by rfl)
    (h0 : (assignEach [.Tuple [.Name x px, .Name y py] kt pt] X.env).map (·.2) = [assign (.Tuple [.Name x px, .Name y py] kt pt) X.env] := by rfl)
    (h1 : starEach [.List [.Constant (.int m) kc1 pc1] pa1, .List [.Constant (.int n) kc2 pc2] pa2] X.env = (false, eval (.List [.Constant (.int m) kc1 pc1] pa1) X.env) :: starEach [.List [.Constant (.int n) kc2 pc2] pa2] X.env := by rfl)
    (h2 : starEach [.List [.Constant (.int n) kc2 pc2] pa2] X.env = (false, eval (.List [.Constant (.int n) kc2 pc2] pa2) X.env) :: starEach [] X.env := by rfl)
    (h3 : starEach [.Constant (.int m) kc1 pc1] X.env = (false, eval (.Constant (.int m) kc1 pc1) X.env) :: starEach [] X.env := by rfl) (h4 : starEach [.Constant (.int n) kc2 pc2] X.env = (false, eval (.Constant (.int n) kc2 pc2) X.env) :: starEach [] X.env := by rfl)
    (a1 : (assignEach [.Name x px, .Name y py] X.env).map (·.2) = assign (.Name x px) X.env :: (assignEach [.Name y py] X.env).map (·.2) := by rfl) (a2 : (assignEach [.Name y py] X.env).map (·.2) = assign (.Name y py) X.env :: (assignEach [] X.env).map (·.2) := by rfl)
    (a3 : (assignEach [.Name x px, .Name y py] X.env).length = 2 := by rfl) (a4 : (assignEach [.Name x px, .Name y py] X.env).findIdx? (·.1) = none := by rfl) :
    DS X (.Assign [.Tuple [.Name x px, .Name y py] kt pt] (.Tuple [.List [.Constant (.int m) kc1 pc1] pa1, .List [.Constant (.int n) kc2 pc2] pa2] k2 pt2) pos) (sOwn2 i j m n) :=
  PS.weak (ps_asg (pe_tup (pa_cons (pe_lst (pa_cons pe_int pa_nil h3)) (pa_cons (pe_lst (pa_cons pe_int pa_nil h4)) pa_nil h2) h1)) (pg_tup hc (pgs_cons (pg_name hN hi hx fx) (pgs_cons (pg_name hN hj hy fy) pgs_nil a2) a1) a3 a4) hs hw h0) fun Dn σ H ⟨r0, G0, H0, r, G, ρ, P, E, ⟨li, lj, p⟩, q⟩ =>
    ⟨by show 1 ≤ sizeLine; decide, fun c hc => ⟨by show 1 ≤ sizeLine; decide, fun d hd => ⟨by show 2 ≤ sizeLine; decide, fun f hf => ⟨f, _, rfl, .inl (.inl upd_same), rfl, _, _, rfl, _, _, rfl, rfl, by
      have E1 := E.take (i := i) hc (.lst upd_same (.cons (.int m) .nil)) li
      have E2 := E1.take (i := j) hd (.lst upd_same (.cons (.int n) .nil)) (by simpa using lj)
      have W := E2.env.st.lay (o := .tup [.ref c, .ref d]) hf
      exact q.nx _ _ _ _ _ p (E2.grow W)⟩⟩⟩⟩
/-- tuple(x), x a list of one's own -/
def dTupO (i : Nat) : PT0 := fun ρ P => ∃ l, ρ[i]? = some (.own (.list l)) ∧ P (.tuple l)
theorem de_tupO (i : Nat) {x : Str} (hm : X.mg "tuple" = none) (hi : X.N[i]? = some x := by rfl) (hvs : Vis X.env.scope x := by first | exact Or.inl rfl | exact Or.inr (Or.inl rfl) | exact Or.inr (Or.inr rfl)) (hg : Gl X "tuple" := by rfl) (hd : (x == ("__debug__" : Str)) = false := by decide)
    (hcd : (x == ("__classdict__" : Str)) = false := by decide) (he : starEach [.Name x p0] X.env = (false, eval (.Name x p0) X.env) :: starEach [] X.env := by rfl) (hpl : (backTo pos (starEach [] X.env)).any (·.1) = false := by rfl) (hv : bootBuiltins "tuple" = some (.type "tuple") := by decide +kernel) :
    DE X (.Call (.Name "tuple" p) [.Name x p0] [] pos) (dTupO i) := PE.weak (pe_callTy call_tuple_of hg hm hv (pa_cons (pe_var hi hvs hd hcd) pa_nil he) (he := he) (hpl := hpl)) fun σ H Q ⟨r, G, ρ, P, E, ⟨l, e, p⟩, q⟩ => by
  obtain ⟨a, vs, h1, h2, h3⟩ := own_in E e
  refine ⟨.ref a, h1, _, _, rfl, .inl ⟨SqL.of h2, fun c hc => ?_⟩⟩
  exact q _ _ _ _ p (E.st.lay hc) (.tup upd_same (h3.mono (E.st.lay hc).g))
/-- x, y = [], None -/
def sOwnN (i j : Nat) : PTS := fun P ρ => i < ρ.length ∧ j < ρ.length ∧ P.nx ((ρ.set i (.own (.list []))).set j (.d .none))
theorem ds_ownN (i j : Nat) {x y : Str} {px py pt pa1 pc2 : Pos} {kt k2 kc2 pt2} (hc : X.calm = true) (hN : X.N.Nodup) (hi : X.N[i]? = some x := by rfl) (hj : X.N[j]? = some y := by rfl) (hij : i ≠ j := by decide)
    (hx : X.env.scope.names.lookup x = some .local := by rfl) (hy : X.env.scope.names.lookup y = some .local := by rfl)
    (hw : swappedStores [.Tuple [.Name x px, .Name y py] kt pt] (.Tuple [.List [] pa1, .Constant .none kc2 pc2] k2 pt2) X.env = pure (some [x, y]) := by rfl)
    (hs : swapsWithSole [.Tuple [.Name x px, .Name y py] kt pt] (.Tuple [.List [] pa1, .Constant .none kc2 pc2] k2 pt2) pos.line X.env = pure false := by rfl)
    (h1 : starEach [.List [] pa1, .Constant .none kc2 pc2] X.env = (false, eval (.List [] pa1) X.env) :: starEach [.Constant .none kc2 pc2] X.env := by rfl)
    (h2 : starEach [.Constant .none kc2 pc2] X.env = (false, eval (.Constant .none kc2 pc2) X.env) :: starEach [] X.env := by rfl) :
    DS X (.Assign [.Tuple [.Name x px, .Name y py] kt pt] (.Tuple [.List [] pa1, .Constant .none kc2 pc2] k2 pt2) pos) (sOwnN i j) :=
  PS.weak (ps_par hc hN hi hj hij hx hy (pa_cons (pe_lst pa_nil) (pa_cons pe_non pa_nil h2) h1) hw hs) fun Dn σ H ⟨r0, G0, H0, r, G, ρ, P, E, ⟨li, lj, p⟩, q⟩ =>
    ⟨Nat.zero_le _, fun c hc => ⟨_, _, rfl, by
      have E1 := E.take (i := i) hc (.lst upd_same .nil) li
      exact q.nx _ _ _ _ _ p (E1.setP (i := j) (p := .d .none) ⟨_, rfl, .non⟩ fun _ z => nomatch z)⟩⟩
/-- x, y, z = a, b, [] -/
def sPar3O (i j l : Nat) (ta tb : PT0) : PTS := fun P ρ => ta ρ fun v => tb ρ fun w => l < ρ.length ∧ P.nx (((ρ.set i (.d v)).set j (.d w)).set l (.own (.list [])))
theorem ds_par3O (i j l : Nat) {x y z : Str} {px py pz pt pa1 : Pos} {kt k2 pt2} (hc : X.calm = true) (hN : X.N.Nodup) (ha : DE X a ta) (hb : DE X b tb) (hi : X.N[i]? = some x := by rfl) (hj : X.N[j]? = some y := by rfl) (hl : X.N[l]? = some z := by rfl)
    (hij : i ≠ j := by decide) (hil : i ≠ l := by decide) (hjl : j ≠ l := by decide)
    (hx : X.env.scope.names.lookup x = some .local := by rfl) (hy : X.env.scope.names.lookup y = some .local := by rfl) (hz : X.env.scope.names.lookup z = some .local := by rfl)
    (hw : swappedStores [.Tuple [.Name x px, .Name y py, .Name z pz] kt pt] (.Tuple [a, b, .List [] pa1] k2 pt2) X.env = pure (some [x, y, z]) := by rfl)
    (hs : swapsWithSole [.Tuple [.Name x px, .Name y py, .Name z pz] kt pt] (.Tuple [a, b, .List [] pa1] k2 pt2) pos.line X.env = pure false := by rfl)
    (h1 : starEach [a, b, .List [] pa1] X.env = (false, eval a X.env) :: starEach [b, .List [] pa1] X.env := by rfl)
    (h2 : starEach [b, .List [] pa1] X.env = (false, eval b X.env) :: starEach [.List [] pa1] X.env := by rfl)
    (h3 : starEach [.List [] pa1] X.env = (false, eval (.List [] pa1) X.env) :: starEach [] X.env := by rfl) :
    DS X (.Assign [.Tuple [.Name x px, .Name y py, .Name z pz] kt pt] (.Tuple [a, b, .List [] pa1] k2 pt2) pos) (sPar3O i j l ta tb) :=
  PS.weak (ps_par3 hc hN hi hj hl hij hil hjl hx hy hz (pa_cons ha (pa_cons hb (pa_cons (pe_lst pa_nil) pa_nil h3) h2) h1) hw hs) fun Dn σ H ⟨r0, G0, H0, r, G, ρ, P, E, p, q⟩ =>
    ⟨r, G, ρ, _, E.env, p, fun v dv G1 H1 p1 W1 R1 => ⟨r, G1, ρ, _, (E.grow W1).env, p1, fun w dw G2 H2 ⟨ll, p2⟩ W2 R2 => ⟨Nat.zero_le _, fun c hc => ⟨_, _, _, rfl, by
      have E2 := (E.grow W1).grow W2
      have E3 := E2.setP (i := i) (p := .d dv) ⟨_, rfl, R1.mono W2.g⟩ fun _ z => nomatch z
      have E4 := E3.setP (i := j) (p := .d dw) ⟨_, rfl, R2⟩ fun _ z => nomatch z
      have E5 := E4.take (i := l) hc (.lst upd_same .nil) (by simpa using ll)
      exact q.nx _ _ _ _ _ p2 E5⟩⟩⟩⟩
end
end PD
namespace PD
open PySem PySem.Spec PyProof.Rows L2
theorem list_extend_tup (l : Addr) (items : Array Value) (n : Nat) (b : Addr) (items2 : Array Value) (n2 : Nat) (dd : Option Addr) (sl : Array (Option Value)) (hs0 : ¬(!items.isEmpty && Builtin.List.listTooLong (items.size + items2.size)) = true) (hs1 : items.size ≤ sizeLine) (hs2 : items.size + items2.size ≤ sizeLine + 1) :
    Meets (Builtin.«list.extend» ⟨[.ref l, .ref b], []⟩) (fun _ R s => s.heap.get? l = some { cls := .type "list", dict := none, data := .seq items n, slots := #[] } ∧ s.heap.get? b = some { cls := .type "tuple", dict := dd, data := .seq items2 n2, slots := sl } ∧ R (.ok (.ret Value.none)) { s with heap := s.heap.update l (Obj.mapSeq fun x => x ++ items2), toks := s.toks }) :=
  .of_wp fun prog w A R s h => by
    obtain ⟨hp, g, d, tk, os⟩ := s; obtain ⟨hl, hb, h⟩ := h
    have f1 := AutoSeq1.idx_int; have f2 := AutoSeq1.sub_tuple_tuple; have f3 := AutoSeq1.sub_list_list; have f4 := AutoSeq1.sub_tuple_list; have f5 := AutoSeq1.sub_list_tuple
    have hz' : (items ++ items2).size ≤ sizeLine + 1 := by rw [Array.size_append]; exact hs2
    wp_walk using (wpAny_updateSeq hl rfl (hz := hs1) (_hz' := hz')), wpAny_loadPart' hl, wpAny_loadPart' hb; exact ⟨_, rfl, h⟩
section
variable {X : Cx}
def rExtendT (K : PySem.W.Frag) : V → List V → Hp → VK → Prop := fun x vs H Q => ∃ l b xs zs, x = .ref l ∧ vs = [.ref b] ∧ H l = some (.lst xs) ∧ SqT K H b zs ∧ xs.length + zs.length ≤ sizeLine ∧ Q .non (upd H l (.lst (xs ++ zs)))
theorem mt_extendT : MtR X "list.extend" (rExtendT X.K) := by
  intro pins s σ H x vs v us Q I rx rv h
  obtain ⟨l, b, xs, zs, rfl, rfl, hH, hB, hz, q⟩ := h
  cases rx
  obtain ⟨u, rfl, ru⟩ := rv.one
  cases ru
  obtain ⟨z, its, n, r, hl, e⟩ := I.lstM hH
  obtain ⟨its2, r2, ⟨o, ho, hcl, n2, hd⟩, hz2⟩ := I.tuple hB
  obtain ⟨cls, dd, data, sl⟩ := o
  cases hcl
  cases hd
  have hl2 : zs.length = its2.length := r2.length
  have hsz : its.toArray.size + its2.toArray.size ≤ sizeLine := by rw [List.size_toArray, List.size_toArray]; omega
  have hlong : ¬ (!its.toArray.isEmpty && Builtin.List.listTooLong (its.toArray.size + its2.toArray.size)) = true := by
    rw [notLongL hsz, Bool.and_false]
    exact Bool.false_ne_true
  refine call_meets F.slot_list_extend ⟨_, e, rfl⟩ F.entry_list_extend (F.args_list_extend_2 _ _)
    (list_extend_tup l its.toArray n b its2.toArray n2 dd sl hlong (by rw [List.size_toArray]; omega) (by omega)) ⟨e, ho, ?_⟩
  refine ⟨.non, _, I.lset (its' := its ++ its2) hH e (by simp) (r.append r2) ?_, rfl, q⟩
  rw [List.length_append]
  omega
end
section
variable {X : Cx} {st : Stmt} {e tg iter c a b k v : Expr} {te ta tb ty tv tk td : PT0} {pos pos' p p0 p1 p2 : Pos} {es : List Expr}
/-- x.extend(e), e a tuple -/
def sExtT (i : Nat) (te : PT0) : PTS := fun P ρ => ∃ xs, ρ[i]? = some (.own (.list xs)) ∧ te ρ fun y => ∃ ys, y = .tuple ys ∧ xs.length + ys.length ≤ sizeLine ∧ P.nx (ρ.set i (.own (.list (xs ++ ys))))
theorem ds_extT (i : Nat) {x : Str} {p0 apos cpos : Pos} (he : DE X e te) (hi : X.N[i]? = some x := by rfl) (hv : Vis X.env.scope x := by first | exact Or.inl rfl | exact Or.inr (Or.inl rfl) | exact Or.inr (Or.inr rfl)) (hd : (x == ("__debug__" : Str)) = false := by decide)
    (hcd : (x == ("__classdict__" : Str)) = false := by decide) (hs : starEach (e :: []) X.env = (false, eval e X.env) :: starEach [] X.env := by rfl) (hbase : attributeBase (.Name x p0) "extend" X.env (eval (.Name x p0) X.env) = eval (.Name x p0) X.env := by rfl)
    (hfew : ((backTo cpos (starEach (e :: []) X.env)).all (fun x => !x.1) && (backToKw cpos (keywordEach [] X.env)).all (fun x => x.1.isSome) && decide ((e :: ([] : List Expr)).length + ([] : List Keyword).length + (if ([] : List Keyword).isEmpty then 0 else 1) < 30)) = true := by rfl)
    (hline : (apos.endLine == cpos.line) = true := by rfl) (hplain : (backTo cpos (starEach [] X.env)).any (·.1) = false := by rfl) (hsw : swapsWith (.Call (.Attribute (.Name x p0) "extend" apos) [e] [] cpos) none pos.line X.env = pure false := by rfl) :
    DS X (.Expr (.Call (.Attribute (.Name x p0) "extend" apos) [e] [] cpos) pos) (sExtT i te) :=
  PS.weak (ps_expr (pe_bm PySem.F.plainAttrs_list PySem.F.slot_list_extend PySem.F.type_list_extend mt_extendT (pe_var hi hv hd hcd) (pa_cons he pa_nil hs) hbase hfew hline hs hplain) hsw) fun Dn σ H ⟨r0, G0, H0, r, G, ρ, P, E, ⟨xs, ex, p⟩, q⟩ => by
    obtain ⟨a, vs, h1, h2, h3⟩ := own_in E.env ex
    refine ⟨.ref a, h1, .inl ⟨rfl, _, SqL.of h2⟩, r, G, ρ, _, E.env, p, fun v y G1 H1 ⟨ys, ey, p1, p2⟩ W R => ?_⟩
    have E1 := E.grow W
    obtain ⟨a', vs', h1', h2', h3'⟩ := own_in E1.env ex
    rw [h1] at h1'
    cases h1'
    subst ey
    cases R with
    | tup e4 r4 => exact ⟨a, _, vs', _, rfl, rfl, h2', same_seqP W.gh e4, by rw [h3'.length, r4.length]; exact p1, q.nx _ _ _ _ _ p2 (E1.put ex h1 (.lst upd_same (h3'.append r4)))⟩
theorem reps_snoc {K : Fg} {G : Hp} : ∀ {vs : List V} {xs : List Dt} {y : Dt}, Reps K G vs (xs ++ [y]) → ∃ vs' u, vs = vs' ++ [u] ∧ Reps K G vs' xs ∧ Rep K G u y
  | _, [], y, h => by
    cases h with
    | cons a b =>
      cases b
      exact ⟨[], _, rfl, .nil, a⟩
  | _, x :: xs, y, h => by
    cases h with
    | cons a b =>
      obtain ⟨vs', u, rfl, h1, h2⟩ := reps_snoc b
      exact ⟨_ :: vs', u, rfl, .cons a h1, h2⟩
/-- x = y.pop() -/
def sPop (i j : Nat) : PTS := fun P ρ => ∃ xs y, ρ[i]? = some (.own (.list (xs ++ [y]))) ∧ i ≠ j ∧ P.nx ((ρ.set i (.own (.list xs))).set j (.d y))
theorem ds_pop (i j : Nat) {x y : Str} {py p0 apos cpos : Pos} (hN : X.N.Nodup) (hi : X.N[i]? = some x := by rfl) (hj : X.N[j]? = some y := by rfl) (hv : Vis X.env.scope x := by first | exact Or.inl rfl | exact Or.inr (Or.inl rfl) | exact Or.inr (Or.inr rfl)) (hd : (x == ("__debug__" : Str)) = false := by decide)
    (hcd : (x == ("__classdict__" : Str)) = false := by decide) (hy : Loc X.env.scope y := by first | exact Or.inl rfl | exact Or.inr rfl)
    (hbase : attributeBase (.Name x p0) "pop" X.env (eval (.Name x p0) X.env) = eval (.Name x p0) X.env := by rfl)
    (hline : (apos.endLine == cpos.line) = true := by rfl) (hs : swapsWith (.Call (.Attribute (.Name x p0) "pop" apos) [] [] cpos) (some (.Name y py)) pos.line X.env = pure false := by rfl)
    (hf : X.fn y = true ∨ X.env.scope.names.lookup y = some .local := by first | exact .inl rfl | exact .inr rfl) :
    DS X (.Assign [.Name y py] (.Call (.Attribute (.Name x p0) "pop" apos) [] [] cpos) pos) (sPop i j) :=
  PS.weak (ps_set hN hj hy (pe_bm0 PySem.F.plainAttrs_list PySem.F.slot_list_pop PySem.F.type_list_pop mt_pop (pe_var hi hv hd hcd) hbase hline) hs hf) fun Dn σ H ⟨r0, G0, H0, r, G, ρ, P, E, ⟨xs, y, ex, ij, p⟩, q⟩ => by
    obtain ⟨a, vs, h1, h2, h3⟩ := own_in E.env ex
    obtain ⟨vs', u, rfl, r1, r2⟩ := reps_snoc h3
    refine ⟨.ref a, h1, .inl ⟨rfl, _, SqL.of h2⟩, a, _, u, rfl, rfl, h2, by simp, ?_⟩
    rw [List.dropLast_concat]
    have E1 := E.put ex h1 (o := .lst vs') (y := .list xs) (.lst upd_same r1)
    have E2 := E1.setP (i := j) (o := some u) (p := .d y) ⟨_, rfl, r2⟩ fun _ z => nomatch z
    exact q.nx _ _ _ _ _ p E2
/-- while x: x a list of one's own -/
def dTruO (i : Nat) : PTT := fun ρ P => ∃ xs, ρ[i]? = some (.own (.list xs)) ∧ P (!xs.isEmpty)
theorem dt_truO (i : Nat) {x : Str} (hi : X.N[i]? = some x := by rfl) (hvs : Vis X.env.scope x := by first | exact Or.inl rfl | exact Or.inr (Or.inl rfl) | exact Or.inr (Or.inr rfl)) (hd : (x == ("__debug__" : Str)) = false := by decide)
    (hcd : (x == ("__classdict__" : Str)) = false := by decide) (he : ∀ whole, isTrue (.Name x p0) X.env whole = (do let v ← whole; standAt (Expr.Name x p0).pos; holding [v] (truthy v)) := by intro _; rfl) : DT X (.Name x p0) (dTruO i) :=
  PT.weak (pt_truth (pe_var hi hvs hd hcd) he) fun σ H Q ⟨r, G, ρ, P, E, ⟨xs, ex, p⟩, q⟩ => by
    obtain ⟨a, vs, h1, h2, h3⟩ := own_in E ex
    refine ⟨.ref a, h1, _, .inl ⟨_, SqL.of h2, rfl⟩, ?_⟩
    rw [isEmpty_reps h3]
    exact q _ _ _ p E.st.grow
/-- x in (text, text, ..) -/
def fInT : F2 := fun x y P => ∃ s ys ss, x = .str s ∧ (y = .tuple ys ∨ y = .list ys) ∧ dStrs ys = some ss ∧ P (.bool (decide (s ∈ ss)))
theorem inV_strs (s : Str) : ∀ ss : List Str, inV (V.str s) (ss.map V.str) = decide (s ∈ ss)
  | [] => by simp [inV]
  | z :: ss => by
    have ih := inV_strs s ss
    unfold inV at ih ⊢
    rw [List.map_cons, List.any_cons, ih]
    by_cases h : z = s
    · subst h; simp [eqV]
    · have h2 : ¬ s = z := fun e => h e.symm
      simp [eqV, h, h2]
theorem flat_strs : ∀ ss : List Str, (ss.map V.str).all flatV = true
  | [] => rfl
  | z :: ss => by rw [List.map_cons, List.all_cons, flat_strs ss]; rfl
theorem do_inT : DO X (compareOp .In) fInT := by
  intro pins s σ H x y v u Q I rx ry h
  obtain ⟨r, G, d, e, P, S, hd, he, ⟨z, ys, ss, rfl, hy, hb, p⟩, q⟩ := h
  cases hd
  have := strs_eq hb
  subst this
  rcases hy with rfl | rfl
  · cases he with
    | tup e1 r1 =>
      have e2 := r1.strs
      subst e2
      exact op_in_seq pins s σ H _ _ v u Q I rx ry ⟨_, _, rfl, .inr (same_seqP S.gh e1), rfl, flat_strs ss, by
        rw [if_neg (by decide), inV_strs]
        exact q _ _ G H p S.grow (.bl _)⟩
  · cases he with
    | lst e1 r1 =>
      have e2 := r1.strs
      subst e2
      exact op_in_seq pins s σ H _ _ v u Q I rx ry ⟨_, _, rfl, .inl (SqL.of (S.gh _ _ e1)), rfl, flat_strs ss, by
        rw [if_neg (by decide), inV_strs]
        exact q _ _ G H p S.grow (.bl _)⟩
end
end PD
namespace PD
open PySem PySem.Spec PyProof.Rows L2
section
variable {X : Cx} {st : Stmt} {e tg iter c a b k v : Expr} {te ta tb ty tv tk td : PT0} {pos pos' p p0 p1 p2 : Pos} {es : List Expr}
def fNotInT : F2 := fun x y P => ∃ s ys ss, x = .str s ∧ (y = .tuple ys ∨ y = .list ys) ∧ dStrs ys = some ss ∧ P (.bool (!decide (s ∈ ss)))
theorem do_notInT : DO X (compareOp .NotIn) fNotInT := by
  intro pins s σ H x y v u Q I rx ry h
  obtain ⟨r, G, d, e, P, S, hd, he, ⟨z, ys, ss, rfl, hy, hb, p⟩, q⟩ := h
  cases hd
  have := strs_eq hb
  subst this
  rcases hy with rfl | rfl
  · cases he with
    | tup e1 r1 =>
      have e2 := r1.strs
      subst e2
      exact op_notIn_seq pins s σ H _ _ v u Q I rx ry ⟨_, _, rfl, .inr (same_seqP S.gh e1), rfl, flat_strs ss, by
        rw [if_pos rfl, inV_strs]
        exact q _ _ G H p S.grow (.bl _)⟩
  · cases he with
    | lst e1 r1 =>
      have e2 := r1.strs
      subst e2
      exact op_notIn_seq pins s σ H _ _ v u Q I rx ry ⟨_, _, rfl, .inl (SqL.of (S.gh _ _ e1)), rfl, flat_strs ss, by
        rw [if_pos rfl, inV_strs]
        exact q _ _ G H p S.grow (.bl _)⟩
end
end PD
namespace PD
open PySem PySem.Spec PyProof.Rows L2
section
variable {prog : Program} {w : World} {A : Around} {E : Value → Shared → Prop} {s : Shared}
theorem adjust_rev (n : Nat) : Builtin.Slice.sliceAdjust none none (-1) (n : Int) = ((n : Int) - 1, -1) := rfl
theorem places_rev (n : Nat) : Builtin.Slice.slicePlaces ((n : Int) - 1) (-1) (-1) = n := by
  unfold Builtin.Slice.slicePlaces
  rw [if_neg (by decide)]
  by_cases h : (n : Int) - 1 > -1
  · rw [if_pos h, show -(-1 : Int) = 1 from rfl, Int.ediv_one]
    omega
  · rw [if_neg h]
    omega
theorem pick_rev (xs : Array Value) : ((List.range xs.size).filterMap fun (k : Nat) => xs[((xs.size : Int) - 1 + (k : Int) * (-1)).toNat]?).toArray = xs.toList.reverse.toArray := by
  have e : ∀ l : List Nat, (∀ k ∈ l, k < xs.size) → (l.filterMap fun (k : Nat) => xs[((xs.size : Int) - 1 + (k : Int) * (-1)).toNat]?) = (l.map fun k => xs.size - 1 - k).filterMap (xs[·]?) := fun l h => by
    induction l with
    | nil => rfl
    | cons k l ih =>
      have hk := h k (by simp)
      rw [List.map_cons, List.filterMap_cons, List.filterMap_cons, ih fun j hj => h j (by simp [hj])]
      rw [show ((xs.size : Int) - 1 + (k : Int) * (-1)).toNat = xs.size - 1 - k by omega]
  rw [e _ fun k hk => List.mem_range.mp hk, PySem.W.krv_range, List.filterMap_reverse, PySem.W.krv_all]
theorem sliceApplied_rev {sl : Addr} {vl vu vs : Value} {n : Nat} {Q : Int × Int × Nat → Shared → Prop} (hs : s.heap.IsSliceOf sl vl vu vs) (pl : IsPart vl none) (pu : IsPart vu none) (ps : IsPart vs (some (-1)))
    (h : Q ((n : Int) - 1, -1, n) s) : wpAny (model prog w) A (Builtin.Slice.sliceApplied (.ref sl) (pure (n : Int))) Q E s := by
  obtain ⟨os, hos, hcs, hds⟩ := id hs
  unfold Builtin.Slice.sliceApplied Builtin.Slice.sliceFields
  refine wpAny_bind (wpAny_bind (wpAny_field hos hds (x := vl) rfl (wpAny_bind (wpAny_field hos hds (x := vu) rfl (wpAny_bind (wpAny_field hos hds (x := vs) rfl (wpAny_pure ?_)))))))
  refine wpAny_bind (HT.slicePart_ ps ?_)
  show wpAny _ _ (if ((-1 : Int) == 0) = true then _ else _) _ _ s
  rw [if_neg (by decide)]
  refine wpAny_bind (HT.slicePart_ pl (wpAny_bind (HT.slicePart_ pu (wpAny_bind (wpAny_pure ?_)))))
  show wpAny _ _ (match Builtin.Slice.sliceAdjust none none (-1) (n : Int) with | (lo, hi) => pure (lo, (-1 : Int), Builtin.Slice.slicePlaces lo hi (-1))) _ _ s
  rw [adjust_rev n]
  show wpAny _ _ (pure ((n : Int) - 1, (-1 : Int), Builtin.Slice.slicePlaces ((n : Int) - 1) (-1) (-1))) _ _ s
  rw [places_rev]
  exact wpAny_pure h
theorem getItem_tuple_rev {t sl : Addr} {items : Array Value} {vl vu vs : Value} {Q : Value → Shared → Prop} (ht : IsTup s.heap t items) (hs : s.heap.IsSliceOf sl vl vu vs) (pl : IsPart vl none) (pu : IsPart vu none) (ps : IsPart vs (some (-1)))
    (h : Q (.ref s.heap.objs.size) { s with heap := s.heap.push { cls := .type "tuple", data := .seq items.toList.reverse.toArray } })
    (hsz : items.size ≤ sizeLine) : wpAny (model prog w) A (getItem (.ref t) (.ref sl)) Q E s := by
  have htake : sizeOk (.seq items.toList.reverse.toArray) := by
    show items.toList.reverse.toArray.size ≤ sizeLine
    rw [List.size_toArray, List.length_reverse, Array.length_toList]
    omega
  obtain ⟨os, hos, hcs, hds⟩ := id hs
  have hTs : s.TypeIs (.ref sl) "slice" := ⟨os, hos, hcs⟩
  unfold getItem
  try with_reducible refine wpAny_holding ?_
  first | refine wpAny_bind (wpAny_pure ?_) | skip
  refine wpAny_bind (wpAny_sequenceKey ht.typeIs (by decide) ?_)
  refine wpAny_bind (wpAny_callSpecial?_slot (name := Str.ofString "__getitem__") ht.typeIs PyProof.Rows.slot_tuple_getitem
    (wpAny_call_entry PyProof.Rows.slot_tuple_getitem ht.typeIs entry_tuple_getitem ?_ (args_tuple_getitem _ _)))
  show wpAny _ _ (Builtin.Tuple.tupleItemsOf (.ref t) >>= _) _ _ s
  refine wpAny_bind (tupleItemsOf_ ht ?_)
  refine wpAny_bind (wpAny_typeOf hTs ?_)
  rw [if_pos (by decide)]
  refine wpAny_bind (sliceApplied_rev hs pl pu ps ?_)
  have hno : ¬ ((((items.size : Int) - 1) == 0 && (-1 : Int) == 1 && items.size == items.size) = true) := by
    rw [show ((-1 : Int) == 1) = false from by decide, Bool.and_false, Bool.false_and]
    exact Bool.false_ne_true
  show wpAny _ _ (if (((items.size : Int) - 1) == 0 && (-1 : Int) == 1 && items.size == items.size) = true then _ else _) _ _ s
  rw [if_neg hno, pick_rev]
  first
    | exact wpAny_bind (m := Builtin.Tuple.tupleExact _) (wpAny_newObj_type (wpAny_pure ⟨_, rfl, wpAny_pure h⟩) htake)
    | exact wpAny_bind (m := Builtin.Tuple.tupleExact _) (wpAny_newObj_type (wpAny_bind (wpAny_pure (wpAny_pure ⟨_, rfl, wpAny_pure h⟩))) htake)
    | exact wpAny_bind (wpAny_bind (m := Builtin.Tuple.tupleExact _) (wpAny_newObj_type (wpAny_pure (wpAny_pure ⟨_, rfl, wpAny_pure h⟩)) htake))
    | exact wpAny_bind (wpAny_bind (m := Builtin.Tuple.tupleExact _) (wpAny_newObj_type (wpAny_pure ⟨_, rfl, wpAny_pure h⟩) htake))
end
section
variable {X : Cx}
/-- t[::-1] -/
def tRevT (K : PySem.W.Frag) (te : TE) : TE := fun σ H Q => te σ H fun x H1 => ∃ a xs, x = .ref a ∧ SqT K H1 a xs ∧ ∀ p, H1 p = none → Q (.ref p) (upd H1 p (.tup xs.reverse))
theorem pe_revT {e : Expr} {te : TE} {k : Nat} {p1 p2 p3 pos : Pos} (he : PE X e te) : PE X (.Subscript e (.Slice none none (some (.UnaryOp .USub (.Constant (.int 1) k p1) p2)) p3) pos) (tRevT X.K te) := by
  refine ⟨fun pins s σ H Q I h => ?_⟩
  refine Subscript_ (thn (he.run pins s σ H _ I h) fun v s1 ⟨x, H1, I1, r1, q1⟩ => ?_)
  obtain ⟨a, xs, ex, hx, q⟩ := q1
  subst ex
  cases r1
  have hst : PO X (some (.UnaryOp .USub (.Constant (.int 1) k p1) p2)) (tPart (tUn (rU fun i => .int (-i)) (tC (.int 1)))) := po_some (pe_un un_neg pe_int)
  refine wpAny_Slice (thn (po_none.run pins s1 σ H1 (fun o H2 => o = none ∧ H2 = H1) I1 ⟨rfl, rfl⟩) fun vl s2 ⟨l, H2, I2, pl, el, e2⟩ => ?_)
  subst el e2
  refine thn (po_none.run pins s2 σ H2 (fun o H3 => o = none ∧ H3 = H2) I2 ⟨rfl, rfl⟩) fun vu s3 ⟨u, H3, I3, pu, eu, e3⟩ => ?_
  subst eu e3
  refine thn (hst.run pins s3 σ H3 (fun o H4 => o = some (-1) ∧ H4 = H3) I3 ⟨1, rfl, -1, rfl, rfl, rfl⟩) fun vs s4 ⟨o, H4, I4, ps, eo, e4⟩ => ?_
  subst eo e4
  have I5 : Inv X pins σ H4 { s4 with heap := s4.heap.push { cls := .type "slice", data := .fields #[vl, vu, vs] } } := I4.kept (t' := s4.toks) fun b ob q => Heap.get?_push_of_some _ q
  obtain ⟨its, r, ht, hz⟩ := I5.tuple hx
  have hlen := r.length
  show wpAny (model X.prog X.w) X.A (subscriptTail e (.Slice none none (some (.UnaryOp .USub (.Constant (.int 1) k p1) p2)) p3) (.ref a) (.ref s4.heap.objs.size)) (EP X pins σ Q) X.xe { s4 with heap := s4.heap.push { cls := .type "slice", data := .fields #[vl, vu, vs] } }
  refine tail_any (ops := [.ref a, .ref s4.heap.objs.size]) ht.typeIs (PyProof.Rows.slot_tuple_getitem.lookup) ?_ (by with_unfolding_all rfl)
  refine getItem_tuple_rev ht (Heap.IsSliceOf.new _ vl vu vs) pl pu ps ?_ (by rw [List.size_toArray]; omega)
  refine ⟨.ref _, _, I5.laid (t' := s4.toks) (o := .tup xs.reverse) (fun b ob q => Heap.get?_push_of_some _ q) (Nat.le_refl _) ?_, rfl, q _ (I5.hok.fresh (Nat.le_refl _))⟩
  exact ⟨by rw [List.length_reverse]; exact hz, _, r.reverse, IsTup.new _ _⟩
end
end PD
namespace PD
open PySem PySem.Spec PyProof.Rows L2
theorem reps_reverse {K : Fg} {G : Hp} : ∀ {vs : List V} {xs : List Dt}, Reps K G vs xs → Reps K G vs.reverse xs.reverse
  | _, _, .nil => .nil
  | _, _, .cons r t => by
    rw [List.reverse_cons, List.reverse_cons]
    exact (reps_reverse t).snoc r
section
variable {X : Cx} {e o : Expr} {te to ta tb : PT0} {pos p0 p1 p2 p3 : Pos}
def dRevT (te : PT0) : PT0 := fun ρ P => te ρ fun x => ∃ xs, x = .tuple xs ∧ P (.tuple xs.reverse)
theorem de_revT {k : Nat} (he : DE X e te) : DE X (.Subscript e (.Slice none none (some (.UnaryOp .USub (.Constant (.int 1) k p1) p2)) p3) pos) (dRevT te) := PE.weak (pe_revT he) fun σ H Q ⟨r, G, ρ, P, E, p, q⟩ => ⟨r, G, ρ, _, E, p, fun v d G1 H1 ⟨xs, ed, p1⟩ W1 R1 => by
  subst ed
  cases R1 with
  | tup e1 r1 =>
    rename_i a vs
    refine ⟨a, vs, rfl, same_seqP W1.gh e1, fun c hc => ?_⟩
    have W2 := (W1.start E.st).lay (o := .tup vs.reverse) hc
    exact q _ _ _ _ p1 (W1.trans W2) (.tup upd_same ((reps_reverse r1).mono W2.g))⟩
/-! ### s.index(t) -/
theorem mt_index0 : MtR X "str.index" (fun x xs H Q => ∃ (a b : Str) (k : Nat), x = .str a ∧ xs = [.str b] ∧ Txt.index0 a b = some k ∧ Q (.int (k : Nat)) H) := by
  intro pins s σ H x xs v us Q I rx rs h
  obtain ⟨a, b, k, rfl, rfl, hk, h⟩ := h
  obtain ⟨t, rfl⟩ := rx
  cases rs with
  | cons r1 rs =>
    cases rs
    obtain ⟨u, rfl⟩ := r1
    cases q : Builtin.Str.occurrences a b 0 a.length 1 with
    | nil =>
      unfold Txt.index0 at hk
      rw [q] at hk
      cases hk
    | cons j rest =>
      unfold Txt.index0 at hk
      rw [q] at hk
      cases hk
      exact PySem.SC.index q ⟨.int (k : Nat), H, I.tok _, ⟨_, rfl⟩, h⟩
def dIdx (to te : PT0) : PT0 := fun ρ P => to ρ fun x => ∃ a : Str, x = .str a ∧ te ρ fun y => ∃ (b : Str) (k : Nat), y = .str b ∧ Txt.index0 a b = some k ∧ P (.int k)
theorem de_idx {apos cpos : Pos} (ho : DE X o to) (he : DE X e te)
    (hs : starEach (e :: []) X.env = (false, eval e X.env) :: starEach [] X.env := by rfl) (hbase : attributeBase o "index" X.env (eval o X.env) = eval o X.env := by rfl)
    (hfew : ((backTo cpos (starEach (e :: []) X.env)).all (fun x => !x.1) && (backToKw cpos (keywordEach [] X.env)).all (fun x => x.1.isSome) && decide ((e :: ([] : List Expr)).length + ([] : List Keyword).length + (if ([] : List Keyword).isEmpty then 0 else 1) < 30)) = true := by rfl)
    (hline : (apos.endLine == cpos.line) = true := by rfl) (hplain : (backTo cpos (starEach [] X.env)).any (·.1) = false := by rfl) :
    DE X (.Call (.Attribute o "index" apos) [e] [] cpos) (dIdx to te) :=
  PE.weak (pe_bm PySem.F.plainAttrs_str PySem.F.slot_str_index PySem.F.type_str_index mt_index0 ho (pa_cons he pa_nil hs) hbase hfew hline hs hplain) fun σ H Q ⟨r, G, ρ, P, E, p, q⟩ => ⟨r, G, ρ, _, E, p, fun v x G1 H1 ⟨a, ex, p1⟩ W1 R1 => by
    subst ex
    cases R1
    exact ⟨rfl, r, G1, ρ, _, E.grow W1, p1, fun u y G2 H2 ⟨b, k, ey, hk, p2⟩ W2 R2 => by
      subst ey
      cases R2
      exact ⟨a, b, k, rfl, rfl, hk, q _ _ _ _ p2 (W1.trans W2) (.int _)⟩⟩⟩
/-! ### s * n -/
def repS (z : Str) (n : Int) : Str := ⟨(List.replicate n.toNat z.cps).foldl (· ++ ·) #[]⟩
theorem fold_list : ∀ (l : List (Array Nat)) (acc : Array Nat), (l.foldl (· ++ ·) acc).toList = acc.toList ++ (l.map Array.toList).flatten
  | [], acc => by simp
  | x :: l, acc => by
    rw [List.foldl_cons, fold_list l]
    simp
theorem rep_list (z : Str) (n : Int) : (repS z n).cps.toList = (List.replicate n.toNat z.cps.toList).flatten := by
  unfold repS
  rw [fold_list, List.map_replicate]
  simp
theorem op_mulS : OpR X (binaryOp .Mult) (fun x y H Q => ∃ (z : Str) (n : Int), x = .str z ∧ y = .int n ∧ 1 ≤ n ∧ n ≤ 1000 ∧ z.length = 1 ∧ Q (.str (repS z n)) H) := by
  intro pins s σ H x y v u Q I rx ry h
  obtain ⟨z, n, rfl, rfl, h1, h2, h3, h⟩ := h
  obtain ⟨t, rfl⟩ := rx
  obtain ⟨u, rfl⟩ := ry
  refine PySem.P.mul_str (by rw [decide_eq_false (by omega), decide_eq_false (by omega)]; rfl) (fun _ _ => ?_) (fun _ _ => ?_) ?_
  · rw [h3]
    have := Int.le_ediv_of_mul_le (c := n) (a := 1) (b := 2 ^ 63 - 1) (by omega) (by omega)
    omega
  · unfold Builtin.Str.tooLong
    rw [sizeLine_eq, h3]
    exact decide_eq_false (by omega)
  · rw [if_neg (by omega)]
    by_cases e : (n == 1 || z.length == 0) = true
    · rw [if_pos e]
      refine ⟨.str z, H, I, ⟨t, rfl⟩, ?_⟩
      have : repS z n = z := by
        rw [h3, Bool.or_eq_true] at e
        rcases e with e | e
        · have : n = 1 := eq_of_beq e
          subst this
          unfold repS
          simp
        · cases e
      rw [this] at h
      exact h
    · rw [if_neg e]
      refine ⟨?_, .str (repS z n), H, I.tok _, ⟨_, rfl⟩, h⟩
      show (repS z n).cps.size ≤ sizeLine
      rw [← Array.length_toList, rep_list, sizeLine_eq]
      have : z.cps.toList.length = 1 := by rw [Array.length_toList]; exact h3
      simp [this]
      omega
def fMulS : F2 := fun x y P => ∃ (z : Str) (n : Int), x = .str z ∧ y = .int n ∧ (1 ≤ n ∧ n ≤ 1000) ∧ z.length = 1 ∧ P (.str (repS z n))
theorem do_mulS : DO X (binaryOp .Mult) fMulS := by
  intro pins s σ H x y v u Q I rx ry h
  obtain ⟨r, G, d, e, P, S, hd, he, ⟨z, n, rfl, rfl, h1, h2, p⟩, q⟩ := h
  cases hd
  cases he
  exact op_mulS pins s σ H _ _ v u Q I rx ry ⟨z, n, rfl, rfl, h1.1, h1.2, h2, q _ _ G H p S.grow (.str _)⟩
end
end PD
namespace PD
open PySem PySem.Spec PyProof.Rows L2
section
variable {X : Cx}
/-- max of a tuple of ints -/
theorem ints_look : ∀ {its : List Value} {ns : List Int}, IntsAre its ns → ∀ (i : Nat) (v : Value), its.toArray[i]? = some v → ∃ t, v = .int (ns.getD i 0) t := fun h i v e =>
  IntsAre.int_at h i v (by simpa using e)
theorem cr_maxT (hc : X.calm = true) : CallR X (.builtin "max") (fun vs H Q => ∃ (a : Addr) (ns : List Int), vs = [V.ref a] ∧ SqT X.K H a (ns.map V.int) ∧ 0 < ns.length ∧ ∀ m, m ∈ ns → (∀ y, y ∈ ns → y ≤ m) → Q (.int m) H) := by
  intro pins s σ H vs us Q I r ⟨a, ns, ev, hs, hne, q⟩
  subst ev
  rw [Vals.ref1 r]
  obtain ⟨its, rv, hl, _⟩ := I.tuple hs
  have hi := rv.ints
  have hlen : its.length = ns.length := hi.length
  have hne2 : a ≠ s.heap.objs.size := Nat.ne_of_lt hl.lt
  have hsz : its.toArray.size = its.length := by simp
  refine call_max_walk (wpAny_pyIter_tuple hl ?_)
  refine ⟨_, _, _, _, _, _, _, rfl, Walks.tuple (A := X.A.in1) (I.ok.hd hc) s.heap.objs.size a hne2 its.toArray, ⟨⟨_, Heap.get?_push_size _ rfl, rfl, rfl⟩, hl.push _⟩, fun b hb => ?_, by omega, CmpOf.ints_gt (fun i => ns.getD i 0) (ints_look hi), fun v h' tk hP hk => ?_⟩
  · show b < (s.heap.push _).objs.size
    rw [Heap.size_push]
    rcases List.mem_cons.mp hb with e | hb
    · rw [e]
      exact Nat.lt_succ_self _
    · rw [List.mem_singleton.mp hb]
      exact Nat.lt_succ_of_lt hl.lt
  · obtain ⟨t, rfl⟩ := ints_look hi _ v hP
    obtain ⟨b1, b2⟩ := argBest_gt (fun i => ns.getD i 0) (its.toArray.size - 1)
    refine ⟨.int _, H, I.kept (t' := tk) fun b u e => hk b u (fun hmem => ?_) (Heap.get?_push_of_some _ e), ⟨t, rfl⟩, q _ ?_ fun y hy => ?_⟩
    · have e1 := List.mem_singleton.mp hmem
      have e2 := Heap.lt_size e
      rw [e1] at e2
      exact absurd e2 (Nat.lt_irrefl _)
    · have hb : argBest (fun i j => decide (ns.getD i 0 > ns.getD j 0)) (its.toArray.size - 1) < ns.length := by omega
      rw [List.getD_eq_getElem?_getD, List.getElem?_eq_getElem hb]
      exact List.getElem_mem hb
    · obtain ⟨i, hi', e⟩ := List.mem_iff_getElem.mp hy
      have e2 : ns.getD i 0 = y := by rw [List.getD_eq_getElem?_getD, List.getElem?_eq_getElem hi', ← e] <;> rfl
      rw [← e2]
      exact b2 i (by omega)
def fMaxT : FC := fun ds P => ∃ ns : List Int, ds = [.tuple (ns.map .int)] ∧ 0 < ns.length ∧ ∀ m, m ∈ ns → (∀ y, y ∈ ns → y ≤ m) → P (.int m)
theorem dInts_map : ∀ ns : List Int, dInts (ns.map PyData.int) = some ns
  | [] => rfl
  | n :: ns => by rw [List.map_cons]; simp [dInts, dInts_map ns]
theorem dc_maxT (hc : X.calm = true) : DC X (.builtin "max") fMaxT := by
  intro pins s σ H xs us Q I rv ⟨r, G, ds, P, S, hd, ⟨ns, e, h0, p⟩, q⟩
  subst e
  cases hd with
  | cons h1 h2 =>
    cases h2
    cases h1 with
    | tup e r1 =>
      rw [ints_eq (dInts_map ns)] at r1
      have e1 := r1.ints
      subst e1
      exact cr_maxT hc pins s σ H _ us Q I rv ⟨_, ns, rfl, same_seqP S.gh e, h0, fun m h1 h2 => q _ _ G H (p m h1 h2) S.grow (.int _)⟩
end
end PD
namespace PD
open PySem PySem.Spec PyProof.Rows L2
/-! ### a set of texts, as it is laid -/
def keyX (e : Int × Value) : Str := match e.2 with
  | .str z _ => z
  | _ => ""
def GoodX (w : World) (e : Int × Value) : Prop := ∃ z tk, e.2 = Value.str z tk ∧ e.1 = keyH w (Sum.inr z)
section
variable {P : Program} {w : World}
theorem goodX_elems {l : List (Int × Value)} (g : ∀ e ∈ l, GoodX w e) : ElemsOf (mixKind P w) l := fun e he => by
  obtain ⟨z, tk, h1, h2⟩ := g e he
  exact ⟨⟨Sum.inr z, by rw [h1]; exact keyIs_str z tk, h2⟩, by rw [h1]; rfl⟩
theorem goodX_is {e : Int × Value} (g : GoodX w e) (x : Str) : (mixKind P w).is (Sum.inr x) e.2 = true ↔ keyX e = x := by
  obtain ⟨z, tk, h1, _⟩ := g
  unfold keyX
  rw [h1]
  constructor
  · intro h
    obtain ⟨t, e⟩ := Value.isStrOf_shape (x := x) (v := .str z tk) h
    injection e
  · rintro rfl
    exact keyIs_str _ tk
theorem goodX_mem {l : List (Int × Value)} (g : ∀ e ∈ l, GoodX w e) (x : Str) : x ∈ l.map keyX ↔ ∃ e ∈ l, (mixKind P w).is (Sum.inr x) e.2 = true := by
  rw [List.mem_map]
  exact ⟨fun ⟨e, he, q⟩ => ⟨e, he, (goodX_is (g e he) x).mpr q⟩, fun ⟨e, he, q⟩ => ⟨e, he, (goodX_is (g e he) x).mp q⟩⟩
end
/-- the set at a holds just the texts ks; its table rises, so that it can be walked -/
structure SX (w : World) (h : Heap) (a : Addr) (ks : List Str) (o : Obj) (es : Array (Int × Value)) (ep : Nat) (t : SetTable) : Prop where
  obj : h.get? a = some o
  ex : o.ExactSet
  dt : o.data = .set es ep t
  good : ∀ e ∈ es.toList, GoodX w e
  nd : (es.toList.map keyX).Nodup
  mem : ∀ z, z ∈ es.toList.map keyX ↔ z ∈ ks
  few : es.size ≤ ks.length
  room : ks.length < scanBound
  fit : t.fits es.size = true
  rise : Ris t.place.toList
  led : w.params.followText "set-order" = true ∨ t.led = true
def SetX (w : World) (h : Heap) (a : Addr) (ks : List Str) : Prop := ∃ o es ep t, SX w h a ks o es ep t
theorem SetX.keep {w : World} {h h' : Heap} {a : Addr} {ks : List Str} (R : SetX w h a ks) (k : ∀ o, h.get? a = some o → h'.get? a = some o) : SetX w h' a ks := by
  obtain ⟨o, es, ep, t, r⟩ := R
  exact ⟨o, es, ep, t, { r with obj := k o r.obj }⟩
section
variable {P : Program} {w : World} {A : Around} {E : Value → Shared → Prop} {s : Shared} {a : Addr} {ks : List Str}
theorem tailX {g : Bool → Sem Unit} (hg : ∀ (b : Bool) (s1 : Shared) (Q' : Unit → Shared → Prop), Q' () s1 → wpAny (model P w) A (g b) Q' E s1) {o : Obj} {es : Array (Int × Value)} {ep : Nat} {t : SetTable}
    (ho : s.heap.get? a = some o) (hex : o.ExactSet) (hd : o.data = .set es ep t) {fs : Array (Int × Value)} {u : SetTable} (g1 : ∀ e ∈ fs.toList, GoodX w e) (nd : (fs.toList.map keyX).Nodup) (m1 : ∀ z, z ∈ fs.toList.map keyX ↔ z ∈ ks)
    (few : fs.size ≤ ks.length) (room : ks.length < scanBound) (hf : u.fits fs.size = true) (hr : Ris u.place.toList) (hl : w.params.followText "set-order" = true ∨ u.led = true) {wd : Bool} {R : Option Bool → Shared → Prop}
    (hR : ∀ h', Heap.SameBut a s.heap h' → SetX w h' a ks → R (some true) { s with heap := h' }) :
    wpAny (model P w) A (do
      storeSet a fs u
      if (!wd && u.tooFull) = true then do
        g (relayAll u fs (SetTable.grown fs.size)).2.2
        storeSet a (relayAll u fs (SetTable.grown fs.size)).1 (relayAll u fs (SetTable.grown fs.size)).2.1
        pure (some true)
      else pure (some true)) R E s := by
  have hsc : fs.size < scanBound := Nat.lt_of_le_of_lt few room
  refine wpAny_bind (wpAny_storeSet_of ho hd ?_ (fits_of_scanBound hsc))
  have ho1 := store_at (es' := fs) (t' := u) ho hd
  have sb1 := Heap.SameBut.update s.heap a (Obj.putSet fs u)
  split
  · have pm := relayAll_perm u fs (SetTable.grown fs.size)
    have hf3 := relayAll_fits u fs (SetTable.grown fs.size)
    have hr3 := relayAll_ris u fs (SetTable.grown fs.size)
    have hl3 := relayAll_led u fs (SetTable.grown fs.size)
    generalize relayAll u fs (SetTable.grown fs.size) = Z at pm hf3 hr3 hl3 ⊢
    obtain ⟨gs, v, gave⟩ := Z
    dsimp only at pm hf3 hr3 hl3 ⊢
    have hsz : gs.size = fs.size := by rw [← Array.length_toList, pm.length_eq, Array.length_toList]
    refine wpAny_bind (hg _ _ _ ?_)
    refine wpAny_bind (wpAny_storeSet_of ho1 rfl ?_ (fits_of_scanBound (by rw [hsz]; exact hsc)))
    have ho2 := store_at (es' := gs) (t' := v) ho1 rfl
    refine wpAny_pure (hR _ (sb1.trans (Heap.SameBut.update _ a _)) ⟨_, gs, ep + 1 + 1, v, ⟨ho2, ?_, ?_, ?_, ?_, ?_, ?_, ?_, ?_, ?_, ?_⟩⟩)
    all_goals first
      | exact hex
      | rfl
      | exact fun e he => g1 e (pm.mem_iff.mp he)
      | exact (pm.map keyX).nodup_iff.mpr nd
      | exact fun z => ((pm.map keyX).mem_iff).trans (m1 z)
      | exact room
      | exact hf3
      | exact hr3
      | (rw [hsz]; exact few)
      | exact hl.imp id fun z => by rw [hl3]; exact z
  · exact wpAny_pure (hR _ sb1 ⟨_, fs, ep + 1, u, ho1, hex, rfl, g1, nd, m1, few, room, hf, hr, hl⟩)
theorem addX {x : Str} {tk : Tok} {Q : Bool → Shared → Prop} (R : SetX w s.heap a ks) (room : ks.length + 1 < scanBound)
    (hQ : ∀ b h', Heap.SameBut a s.heap h' → SetX w h' a (ks ++ [x]) → Q b { s with heap := h' }) : wpAny (model P w) A (setAddHashed a (.str x tk) ((mixKind P w).hash (Sum.inr x))) Q E s := by
  obtain ⟨o, es, ep, t, r⟩ := R
  have hkey : (mixKind P w).is (Sum.inr x) (.str x tk) = true := keyIs_str x tk
  have hsc : (Value.str x tk).scannable = true := rfl
  have hel : ElemsOf (mixKind P w) es.toList := goodX_elems r.good
  have hl1 : (ks ++ [x]).length = ks.length + 1 := by simp
  have hb : es.size < scanBound := Nat.lt_of_le_of_lt r.few r.room
  unfold setAddHashed setAddHashedIn
  refine wpAny_holding (wpAny_bind (wpAny_setState_of r.obj r.dt r.fit ?_))
  dsimp only
  rw [byScan_of hsc hb hel]
  simp only [↓reduceIte]
  unfold setAddByScan
  refine wpAny_bind ?_
  refine wpAny_bind (wpAny_rule ?_)
  refine wpAny_bind (wpAny_setScan_of hkey r.obj r.dt r.fit hel ?_)
  cases hfi : List.findIdx? (fun e => (mixKind P w).is (Sum.inr x) e.2) es.toList with
  | some j =>
    dsimp only
    obtain ⟨hj, pj, _⟩ := List.findIdx?_eq_some_iff_getElem.mp hfi
    have hx : x ∈ ks := (r.mem x).mp ((goodX_mem (P := P) r.good x).mpr ⟨es.toList[j], List.getElem_mem hj, pj⟩)
    refine wpAny_pure (wpAny_pure ?_)
    refine hQ _ s.heap (Heap.SameBut.refl a s.heap) ⟨o, es, ep, t, { r with mem := fun z => ?_, few := by rw [hl1]; exact Nat.le_succ_of_le r.few, room := by rw [hl1]; exact room }⟩
    rw [r.mem z, List.mem_append, List.mem_singleton]
    exact ⟨.inl, fun h => h.elim id fun e => e ▸ hx⟩
  | none =>
    dsimp only
    have hnx : x ∉ es.toList.map keyX := fun z => by
      obtain ⟨e, he, q⟩ := (goodX_mem (P := P) r.good x).mp z
      have c := List.findIdx?_eq_none_iff.mp hfi e he
      rw [q] at c
      cases c
    have gave : ∀ (b : Bool) {s1 : Shared} {Q' : Unit → Shared → Prop}, Q' () s1 → wpAny (model P w) A (match b with | true => rule "set.scan.the-table-gave-way" | false => pure ()) Q' E s1 := fun b s1 Q' q => by
      cases b
      · exact wpAny_pure q
      · exact wpAny_rule q
    have pm := layNew_perm t es ((mixKind P w).hash (Sum.inr x)) (.str x tk)
    have hf1 := layNew_fits t es ((mixKind P w).hash (Sum.inr x)) (.str x tk)
    have hr1 := layNew_ris t es ((mixKind P w).hash (Sum.inr x)) (.str x tk) r.rise
    have hl2 := layNew_led t es ((mixKind P w).hash (Sum.inr x)) (.str x tk)
    generalize layNew t es ((mixKind P w).hash (Sum.inr x)) (.str x tk) = Z at pm hf1 hr1 hl2 ⊢
    obtain ⟨fs, u, wd, gv⟩ := Z
    dsimp only at pm hf1 hr1 hl2 ⊢
    rw [Array.toList_push] at pm
    have pc : fs.toList.Perm (((mixKind P w).hash (Sum.inr x), Value.str x tk) :: es.toList) := pm.trans (List.perm_append_singleton _ _)
    have pk : (fs.toList.map keyX).Perm (x :: es.toList.map keyX) := pc.map keyX
    have g1 : ∀ e ∈ fs.toList, GoodX w e := fun e he => by
      rcases List.mem_cons.mp (pc.mem_iff.mp he) with z | z
      · rw [z]
        exact ⟨x, tk, rfl, rfl⟩
      · exact r.good e z
    have nd1 : (fs.toList.map keyX).Nodup := pk.nodup_iff.mpr (List.nodup_cons.mpr ⟨hnx, r.nd⟩)
    have m1 : ∀ z, z ∈ fs.toList.map keyX ↔ z ∈ ks ++ [x] := fun z => by
      rw [pk.mem_iff, List.mem_cons, r.mem z, List.mem_append, List.mem_singleton]
      exact Or.comm
    have few1 : fs.size ≤ (ks ++ [x]).length := by
      have := r.few
      rw [hl1, ← Array.length_toList, pc.length_eq, List.length_cons, Array.length_toList]
      omega
    have room1 : (ks ++ [x]).length < scanBound := by rw [hl1]; exact room
    have led1 : w.params.followText "set-order" = true ∨ u.led = true := r.led.imp id fun z => by rw [hl2]; exact z
    refine wpAny_bind (gave _ ?_)
    split
    · refine wpAny_bind ?_
      rw [hashByValue_scannable 8 hsc]
      refine wpAny_pure ?_
      refine tailX ?_ r.obj r.ex r.dt g1 nd1 m1 few1 room1 ?_ ?_ ?_ ?_
      · exact fun b s1 Q' q => gave b q
      · first
          | exact hf1
          | (split <;> first | exact hf1 | exact SetTable.fits_plain_off hf1)
      · first
          | exact hr1
          | (split <;> exact hr1)
      · first
          | exact led1
          | (split <;> exact led1)
      · intro h' sb q
        dsimp only
        exact wpAny_pure (hQ _ h' sb q)
    · refine wpAny_bind (wpAny_pure ?_)
      simp only [↓reduceIte]
      refine tailX ?_ r.obj r.ex r.dt g1 nd1 m1 few1 room1 hf1 hr1 led1 ?_
      · exact fun b s1 Q' q => gave b q
      · intro h' sb q
        dsimp only
        exact wpAny_pure (hQ _ h' sb q)
end
/-! ### set(xs), xs a list of texts -/
section
variable {P : Program} {w : World} {A : Around} {R : Result → Shared → Prop} {I : Addr} {fp wr : List Addr} {G : Array GenState → Array GenState → Prop} {n : Nat} {Pv : Nat → Value → Prop} {St : Nat → Shared → Prop}
theorem loopX (W : WalksS P w A.in1 I fp wr G n Pv St) (S : Addr) (hSf : S ∉ fp) (xs : List Str) (hval : ∀ i v, Pv i v → ∃ x t, xs[i]? = some x ∧ v = .str x t) (hn : n = xs.length) (hb : n + 1 < scanBound) :
    ∀ (k i : Nat) (s : Shared), n - i = k → i ≤ n → St i s → SetX w s.heap S (xs.take i) → (∀ s', Moved (S :: wr) G s s' → SetX w s'.heap S xs → R (.ok (.ret .none)) s') →
      codeAny (model P w) A (.builtin "set.update.loop" ⟨[.ref S, .ref I], []⟩) R s := by
  have hSw : S ∉ wr := fun h => hSf (W.sub _ h)
  have sub : ∀ b ∈ wr, b ∈ S :: wr := fun b h => .tail _ h
  intro k
  induction k with
  | zero =>
    intro i s hk hi hst hS hR
    have hin : i = n := by omega
    subst hin
    refine codeAny_builtin PyProof.Rows.F.entry_set_update_loop ?_
    rw [Around.under_plainId PyProof.Rows.F.plain_set_update_loop _]
    show wpAny _ A.in1 (pyNext (.ref I) >>= _) _ _ s
    refine wpAny_bind (W.done s _ _ hst fun s' hm => ?_)
    show wpAny _ A.in1 (ret Value.none) _ _ s'
    rw [hn, List.take_length] at hS
    exact wpAny_pure (hR s' (hm.mono sub) (hS.keep fun o e => hm.heap S o hSw e))
  | succ k ih =>
    intro i s hk hi hst hS hR
    have hlt : i < n := by omega
    refine codeAny_builtin PyProof.Rows.F.entry_set_update_loop ?_
    rw [Around.under_plainId PyProof.Rows.F.plain_set_update_loop _]
    show wpAny _ A.in1 (pyNext (.ref I) >>= _) _ _ s
    refine wpAny_bind (W.item i s _ _ hlt hst fun v s' hP hst' hm => ?_)
    obtain ⟨x, t, hx, rfl⟩ := hval i v hP
    have hS' : SetX w s'.heap S (xs.take i) := hS.keep fun o e => hm.heap S o hSw e
    show wpAny _ A.in1 (holding [Value.str x t] (setAdd S (.str x t)) >>= _) _ _ s'
    refine wpAny_bind (wpAny_holding ?_)
    unfold setAdd
    refine wpAny_holding ?_
    refine wpAny_bind ((mixKind P w).pyHash (k := Sum.inr x) (keyIs_str x t) ?_)
    have hroom : (xs.take i).length + 1 < scanBound := by rw [List.length_take]; omega
    refine addX (P := P) (s := { s' with toks := s'.toks + 1 }) hS' hroom fun b h' hsb hS2 => ?_
    have hS3 : SetX w h' S (xs.take (i + 1)) := by
      rw [List.take_add_one, hx]
      exact hS2
    refine wpAny_pure ⟨plainId_quiet PyProof.Rows.F.plain_set_update_loop _, ih (i + 1) _ (by omega) hlt (W.frame _ s' _ _ hst' (Nat.le_succ _) fun b hbf o e => ?_) hS3 fun s2 hm2 hS4 => ?_⟩
    · rw [hsb.2 b fun h : b = S => hSf (by rw [← h]; exact hbf)]
      exact e
    · refine hR s2 (Moved.trans W.gtrans ((hm.mono sub).then_heap (Nat.le_succ _) fun b o hbw e => ?_) hm2) hS4
      rw [hsb.2 b fun h : b = S => hbw (by rw [h]; exact .head _)]
      exact e
end
theorem freshX {w : World} {h : Heap} {a : Addr} (e : h.get? a = some { cls := .type "set", dict := none, data := .set #[] 0 (.fresh 0 0 (!w.params.followText "set-order")) }) : SetX w h a [] :=
  ⟨_, #[], 0, _, ⟨e, ⟨rfl, rfl, rfl⟩, rfl, fun e he => by simp at he, by simp, fun z => by simp, Nat.le_refl _, by decide, by rfl, List.Pairwise.nil, by
    cases hf : w.params.followText "set-order"
    · exact .inr (by simp [SetTable.fresh])
    · exact .inl rfl⟩⟩
section
variable {P : Program} {w : World} {A : Around} {E : Value → Shared → Prop} {s : Shared}
def setObj0 (w : World) : Obj := { cls := .type "set", dict := none, data := .set #[] 0 (.fresh 0 0 (!w.params.followText "set-order")) }
set_option maxHeartbeats 8000000 in
theorem callX {l : Addr} {items : Array Value} (xs : List Str) {Q : Value → Shared → Prop} (hh : A.handled = none) (hl : s.heap.IsList l items) (hit : ∀ (i : Nat) (v : Value), items[i]? = some v → ∃ x t, xs[i]? = some x ∧ v = .str x t) (hsz : items.size = xs.length) (hb : xs.length + 1 < scanBound)
    (h : ∀ (h' : Heap) (tk : Nat), SetX w h' s.heap.objs.size xs → (∀ b o, b < s.heap.objs.size → s.heap.get? b = some o → h'.get? b = some o) → Q (.ref s.heap.objs.size) { s with heap := h', toks := tk }) :
    wpAny (model P w) A (call (.type "set") [.ref l]) Q E s := by
  obtain ⟨c, tl, hmro⟩ := PySem.F.called_set.mro
  have hmade := PySem.F.called_set.made
  have hsub := PySem.F.called_set.sub
  refine wpAny_call (codeAny_of_tree ?_)
  show wpAny _ _ (callAny (.type "set") _) _ _ _
  refine wpAny_pure ⟨Code.quiet_builtin _ (by decide +kernel), codeAny_builtin PySem.F.entry_type_call ?_⟩
  rw [Around.under_plain (weight_type_call_type "set" [.ref l] []) rfl]
  have h1 := PySem.F.called_set.notType
  have h2 := PySem.F.called_set.canCreate
  have hct := PySem.F.typeCall_set_1 (.ref l)
  repeat (any_goals (first | assumption | wp_step))
  refine codeAny_mono (code_set_led1 (.ref l) (E := E) (Q₁ := fun obj s1 => obj = .ref s.heap.objs.size ∧ s1 = { s with heap := s.heap.push (setObj0 w) }) ⟨rfl, rfl⟩) fun r s1 hr => ?_
  cases r with
  | error e => exact hr
  | ok fl =>
    cases fl with
    | ret obj =>
      obtain ⟨rfl, rfl⟩ := hr
      have hS : (s.heap.push (setObj0 w)).get? s.heap.objs.size = some (setObj0 w) := Heap.get?_push_size _ rfl
      have hT : Shared.TypeIs { s with heap := s.heap.push (setObj0 w) } (.ref s.heap.objs.size) "set" := ⟨_, hS, rfl⟩
      have hli := PySem.F.called_set.init.lookup
      have hbi := PySem.F.called_set.init.bind (.ref s.heap.objs.size)
      repeat (any_goals (first | assumption | wp_step))
      refine codeAny_mono (codeAny_call_builtin (R := wants (fun r s2 => r = .none ∧ ∃ h' tk, s2 = { s with heap := h', toks := tk } ∧ SetX w h' s.heap.objs.size xs ∧ (∀ b o, b < s.heap.objs.size → s.heap.get? b = some o → h'.get? b = some o)) E)
        PySem.F.called_set.init.plain PySem.F.entry_set_init (check_set_init_1 hT ?_)) fun r2 s2 hr2 => ?_
      · obtain ⟨ol, hol, hcl, nl, hdl⟩ := hl
        obtain ⟨ocls, odict, odata, oslots⟩ := ol
        simp only at hcl hdl
        subst hcl hdl
        have hol' : (s.heap.push (setObj0 w)).get? l = some { cls := .type "list", dict := odict, data := .seq items nl, slots := oslots } := Heap.get?_push_of_some _ hol
        have hsls := PySem.F.sub_list_set
        have hslf := PySem.F.sub_list_frozenset
        have hne : (Value.type "list" == Value.type "dict") = false := by decide
        have hl1 : (s.heap.push (setObj0 w)).IsList l items := ⟨_, hol', rfl, nl, rfl⟩
        unfold Builtin.«set.__init__» noKeywords Builtin.Frozenset.updateFrom
        generalize hPI : pyIter = PI
        wp_walk
        subst hPI
        refine wpAny_pyIter_list hl1 ?_
        refine wpAny_bind (wpAny_runValue ?_)
        have hlS : l < s.heap.objs.size := Heap.lt_size hol
        have hh3 : A.in1.in1.in1.handled = none := by simp [hh]
        have z1 : (s.heap.push (setObj0 w)).objs.size = s.heap.objs.size + 1 := Heap.size_push ..
        have hneI : l ≠ (s.heap.push (setObj0 w)).objs.size := by
          rw [z1]
          exact Nat.ne_of_lt (Nat.lt_succ_of_lt hlS)
        have hSf : s.heap.objs.size ∉ [(s.heap.push (setObj0 w)).objs.size, l] := by
          rw [z1]
          simp only [List.mem_cons, List.not_mem_nil, or_false, not_or]
          exact ⟨Nat.ne_of_lt (Nat.lt_succ_self _), Nat.ne_of_gt hlS⟩
        refine loopX ((Walks.list hh3 _ l hneI items).toS) s.heap.objs.size hSf xs hit hsz (by rw [hsz]; exact hb) (items.size - 0) 0 _ (by omega) (Nat.zero_le _)
          ⟨⟨_, Heap.get?_push_size _ rfl, rfl, rfl⟩, (hl1.push _)⟩ ?hS0 ?hR
        case hS0 => exact freshX (Heap.get?_push_of_some _ hS)
        case hR =>
          intro s' hm hS'
          obtain ⟨h', g', d', tk', os'⟩ := s'
          have eg : g' = s.gens := hm.gens
          have ed : d' = s.drawn := hm.drawn
          have eo : os' = s.os := hm.os
          subst eg ed eo
          show wpAny _ _ _ _ _ _
          refine wpAny_pure ?_
          show wpAny _ _ (ret Value.none) _ _ _
          refine wpAny_pure ⟨rfl, h', tk', rfl, hS', fun b o hbl e => ?_⟩
          refine hm.heap b o ?_ (Heap.get?_push_of_some _ (Heap.get?_push_of_some _ e))
          rw [z1]
          simp only [List.mem_cons, List.not_mem_nil, or_false, not_or]
          exact ⟨Nat.ne_of_lt hbl, Nat.ne_of_lt (Nat.lt_succ_of_lt hbl)⟩
      · cases r2 with
        | error e => exact hr2
        | ok fl2 =>
          cases fl2 with
          | ret r =>
            obtain ⟨rfl, h', tk, rfl, hS', hk'⟩ := hr2
            repeat (any_goals (first | assumption | wp_step))
            exact h _ _ hS' hk'
          | _ => exact hr2.elim
    | _ => exact hr.elim
end
/-! ### sorted(a set of texts) -/
def strOfV : Value → Str
  | .str z _ => z
  | _ => ""
theorem strsOfV : ∀ (l : List Value), (∀ v ∈ l, ∃ z tk, v = Value.str z tk) → StrsAre l (l.map strOfV)
  | [], _ => .nil
  | v :: l, h => by
    obtain ⟨z, tk, rfl⟩ := h v (by simp)
    exact .cons z tk (strsOfV l fun u hu => h u (by simp [hu]))
section
variable {P : Program} {w : World} {A : Around} {E : Value → Shared → Prop} {s : Shared} {a : Addr} {ks : List Str}
theorem sortedX {Q : Value → Shared → Prop} (R : SetX w s.heap a ks) (hh : A.handled = none)
    (hQ : ∀ s' p (out : Array Value) (c : Nat) (ys : List Str), (∀ b o, s.heap.get? b = some o → s'.heap.get? b = some o) → s'.gens = s.gens → s'.os = s.os → s.heap.objs.size ≤ p →
      s'.heap.get? p = some (seqObj "list" out c) → StrsAre out.toList ys → sortedS ys = true → ys.Nodup → (∀ z, z ∈ ys ↔ z ∈ ks) → ys.length ≤ sizeLine → Q (.ref p) s') :
    wpAny (model P w) A (call (.builtin "sorted") [.ref a]) Q E s := by
  obtain ⟨o, es, ep, t, r⟩ := R
  have hb : es.size < scanBound := Nat.lt_of_le_of_lt r.few r.room
  refine Calls.call_function_entry PyProof.Rows.kind_sorted PyProof.Rows.plain_sorted PyProof.Rows.entry_sorted (PyProof.Rows.args_sorted1 _) ?_
  unfold Builtin.«sorted»
  refine wpAny_bind (m := checkCount "sorted" 1 1 _) (wpAny_pure (wpAny_bind (collect_set (A := A.in1) hh ⟨o, r.obj, r.ex.1, r.dt⟩ r.fit hb r.rise r.led fun s1 vs k1 hz gen1 os1 pm => ?_)))
  have hvl : vs.length ≤ sizeLine := by
    rw [pm.length_eq, List.length_map, Array.length_toList]
    exact fits_of_scanBound hb
  have hI : StrsAre vs (vs.map strOfV) := strsOfV vs fun v hv => by
    obtain ⟨e, he, q⟩ := List.mem_map.mp (pm.mem_iff.mp hv)
    obtain ⟨z, tk, h1, _⟩ := r.good e he
    exact ⟨z, tk, by rw [← q]; exact h1⟩
  have pk : (vs.map strOfV).Perm (es.toList.map keyX) := by
    have q := pm.map strOfV
    rw [List.map_map] at q
    exact q
  refine wpAny_bind (wpAny_newList ?_ hvl)
  have hoL : (s1.heap.push (seqObj "list" vs.toArray 0)).get? s1.heap.objs.size = some (seqObj "list" vs.toArray 0) := Heap.get?_push_size _ rfl
  refine wpAny_bind (wpAny_holding (wpAny_call_entry PyProof.Rows.slot_list_sort ⟨_, hoL, rfl⟩ PyProof.Rows.entry_list_sort
    (PyProof.Rows.list_sort_treeKAny PyProof.Rows.strKind_oneLt hoL hI.keysOf (fun v1 v2 rest e => PyProof.Rows.keyKind_strs (by rw [← e]; exact hI)) hvl fun st hp hs => ?_) (PyProof.Rows.args_list_sort _)))
  obtain ⟨ys, a1, a2, a3⟩ := PyProof.Rows.sorted_out_str hI hp hs
  have pn : ys.Perm (es.toList.map keyX) := a2.trans pk
  refine ⟨_, rfl, wpAny_pure ⟨_, rfl, ?_⟩⟩
  obtain ⟨c, hc⟩ := PyProof.Rows.sortedHeap_at (vs := vs) (out := (PyProof.Rows.arrOf st).map (·.2)) hoL
  refine hQ _ s1.heap.objs.size _ c ys (fun b u e => ?_) gen1 os1 hz hc a1 a3 (pn.nodup_iff.mpr r.nd) (fun z => pn.mem_iff.trans (r.mem z)) ?_
  · have q := k1 b u e
    have hlt := Heap.lt_size q
    refine (PyProof.Rows.sortedHeap_old (Nat.ne_of_lt hlt) ?_).trans (Heap.get?_push_of_some _ q)
    rw [PyProof.Rows.size_push']
    exact Nat.lt_succ_of_lt hlt
  · rw [pn.length_eq, List.length_map, Array.length_toList]
    exact fits_of_scanBound hb
end
end PD
namespace PD
open PySem PySem.Spec PyProof.Rows L2
/-- the set of texts at a, as a tracked thing -/
def SetXO (w : World) (a : Addr) (ks : List Str) : HO := .ext fun h => SetX w h a ks
theorem setXO_ok {P : Program} {w : World} {H : Hp} {h : Heap} {a : Addr} {ks : List Str} (R : SetX w h a ks) : ObjOk P w H h a (SetXO w a ks) := by
  have ⟨o, _, _, _, r⟩ := R
  exact ⟨R, ⟨o, r.obj⟩, fun h1 h2 p k => SetX.keep p k⟩
theorem strs_look : ∀ {its : List Value} {xs : List Str}, StrsAre its xs → ∀ (i : Nat) (v : Value), its[i]? = some v → ∃ x t, xs[i]? = some x ∧ v = .str x t
  | _, _, .nil, i, v, e => by simp at e
  | _, _, .cons x t r, 0, v, e => by
    simp at e
    exact ⟨x, t, by simp, e.symm⟩
  | _, _, .cons x t r, i + 1, v, e => by
    obtain ⟨y, u, h1, h2⟩ := strs_look r i v (by simpa using e)
    exact ⟨y, u, by simpa using h1, h2⟩
section
variable {X : Cx}
theorem cr_setX (hc : X.calm = true) : CallR X (.type "set") (fun vs H Q => ∃ (a : Addr) (xs : List Str), vs = [V.ref a] ∧ SqL X.K H a (xs.map V.str) ∧ xs.length ≤ 1000 ∧ ∀ p, H p = none → Q (.ref p) (upd H p (SetXO X.w p xs))) := by
  intro pins s σ H vs us Q I r ⟨a, xs, ev, hs, hx, q⟩
  subst ev
  rw [Vals.ref1 r]
  obtain ⟨its, rv, hl, hz⟩ := I.list hs
  have st := rv.strs
  have hlen : its.length = xs.length := by
    have := rv.length
    simpa using this.symm
  have hroom : xs.length + 1 < scanBound := by
    have : (1002 : Nat) < scanBound := by unfold scanBound; omega
    omega
  refine callX xs (I.ok.hd hc) hl.isList (fun i v e => strs_look st i v (by simpa using e)) (by simp [hlen]) hroom fun h' tk R hk => ?_
  exact ⟨.ref _, upd H s.heap.objs.size (SetXO X.w s.heap.objs.size xs), I.laid (t' := tk) (fun b u e => hk b u (Heap.lt_size e) e) (Nat.le_refl _) (setXO_ok R), rfl, q _ (I.hok.fresh (Nat.le_refl _))⟩
theorem cr_sortX (hc : X.calm = true) : CallR X (.builtin "sorted") (fun vs H Q => ∃ (a : Addr) (ks : List Str), vs = [V.ref a] ∧ H a = some (SetXO X.w a ks) ∧
    ∀ (ys : List Str) (p : Addr), sortedS ys = true → ys.Nodup → (∀ z, z ∈ ys ↔ z ∈ ks) → H p = none → Q (.ref p) (upd H p (.lst (ys.map V.str)))) := by
  intro pins s σ H vs us Q I r ⟨a, ks, ev, ha, q⟩
  subst ev
  rw [Vals.ref1 r]
  have R : SetX X.w s.heap a ks := (I.hok a _ ha).1
  refine sortedX R (I.ok.hd hc) fun s' p out c ys k g o hp hg hi hs nd hm hl => ?_
  have hlen : (ys.map V.str).length ≤ sizeLine := by rw [List.length_map]; exact hl
  have hn : H p = none := I.hok.fresh hp
  have J : Inv X pins σ (upd H p (.lst (ys.map V.str))) { s with heap := s'.heap, gens := s'.gens, drawn := s'.drawn, toks := s'.toks } :=
    I.call (ch := []) (Un.laid k hp hn) (I.hok.laid k hp ⟨hlen, out.toList, c, vals_of_strs hi, hg⟩) (by rw [g]; exact I.bare) (fun _ z => nomatch z)
  have e : s' = { s with heap := s'.heap, gens := s'.gens, drawn := s'.drawn, toks := s'.toks } := by
    obtain ⟨x1, x2, x3, x4, x5⟩ := s'
    obtain ⟨y1, y2, y3, y4, y5⟩ := s
    have o : x5 = y5 := o
    rw [o]
  rw [e]
  exact ⟨.ref p, _, J, rfl, q ys p hs nd hm hn⟩
/-- sorted(set(xs)), xs a list of texts -/
def dSortSet (t : PTA) : PT0 := fun ρ P => t ρ fun xs => ∃ ss : List Str, xs = [.list (ss.map .str)] ∧ ss.length ≤ 1000 ∧ ∀ ys : List Str, sortedS ys = true → ys.Nodup → (∀ z, z ∈ ys ↔ z ∈ ss) → P (.list (ys.map .str))
theorem de_sortSet {a : Expr} {t : PTA} {p p2 pos pos2 : Pos} (hc : X.calm = true) (hm : X.mg "sorted" = none) (hm2 : X.mg "set" = none) (ha : DA X [a] t) (hg : Gl X "sorted" := by rfl) (hg2 : Gl X "set" := by rfl)
    (hv : bootBuiltins "sorted" = some (.builtin "sorted") := by decide +kernel) (hv2 : bootBuiltins "set" = some (.type "set") := by decide +kernel)
    (he : starEach [a] X.env = (false, eval a X.env) :: starEach [] X.env := by rfl) (hpl : (backTo pos2 (starEach [] X.env)).any (·.1) = false := by rfl)
    (he2 : starEach [.Call (.Name "set" p2) [a] [] pos2] X.env = (false, eval (.Call (.Name "set" p2) [a] [] pos2) X.env) :: starEach [] X.env := by rfl) (hpl2 : (backTo pos (starEach [] X.env)).any (·.1) = false := by rfl) :
    DE X (.Call (.Name "sorted" p) [.Call (.Name "set" p2) [a] [] pos2] [] pos) (dSortSet t) :=
  PE.weak (pe_callB (cr_sortX hc) hg hm hv (pa_cons (pe_callTy (cr_setX hc) hg2 hm2 hv2 ha (he := he) (hpl := hpl)) pa_nil he2) (he := he2) (hpl := hpl2)) fun σ H Q ⟨r, G, ρ, P, E, p, q⟩ => by
    refine ⟨r, G, ρ, _, E, p, fun vs xs G1 H1 p1 W1 R1 => ?_⟩
    obtain ⟨ss, rfl, hl, p1⟩ := p1
    have S := W1.start E.st
    cases R1 with
    | cons h1 h2 =>
      cases h2
      cases h1 with
      | lst e r1 =>
        have e1 := r1.strs
        subst e1
        refine ⟨_, ss, rfl, SqL.of (S.gh _ _ e), hl, fun a1 f1 => ?_⟩
        have W2 := S.lay (o := SetXO X.w a1 ss) f1
        have S2 := W2.start S
        refine ⟨a1, ss, rfl, upd_same, fun ys a2 k1 k2 k3 f2 => ?_⟩
        exact q _ _ _ _ (p1 ys k1 k2 k3) ((W1.trans W2).trans (S2.lay f2)) (.lst upd_same Reps.of_strs)
end
end PD
namespace PD
open PySem PySem.Spec PyProof.Rows L2
section
variable {X : Cx}
/-- x in a list or tuple of ints -/
def fInI : F2 := fun x y P => ∃ (n : Int) (ns : List Int), x = .int n ∧ (y = .tuple (ns.map .int) ∨ y = .list (ns.map .int)) ∧ P (.bool (decide (n ∈ ns)))
theorem inV_ints (n : Int) : ∀ ns : List Int, inV (V.int n) (ns.map V.int) = decide (n ∈ ns)
  | [] => by simp [inV]
  | z :: ns => by
    have ih := inV_ints n ns
    unfold inV at ih ⊢
    rw [List.map_cons, List.any_cons, ih]
    by_cases h : z = n
    · subst h; simp [eqV]
    · have h2 : ¬ n = z := fun e => h e.symm
      simp [eqV, h, h2]
theorem flat_ints : ∀ ns : List Int, (ns.map V.int).all flatV = true
  | [] => rfl
  | z :: ns => by rw [List.map_cons, List.all_cons, flat_ints ns]; rfl
theorem do_inI : DO X (compareOp .In) fInI := by
  intro pins s σ H x y v u Q I rx ry h
  obtain ⟨r, G, d, e, P, S, hd, he, ⟨n, ns, rfl, hy, p⟩, q⟩ := h
  cases hd
  rcases hy with rfl | rfl
  · cases he with
    | tup e1 r1 =>
      rw [ints_eq (dInts_map ns)] at r1
      have e2 := r1.ints
      subst e2
      exact op_in_seq pins s σ H _ _ v u Q I rx ry ⟨_, _, rfl, .inr (same_seqP S.gh e1), rfl, flat_ints ns, by
        rw [if_neg (by decide), inV_ints]
        exact q _ _ G H p S.grow (.bl _)⟩
  · cases he with
    | lst e1 r1 =>
      rw [ints_eq (dInts_map ns)] at r1
      have e2 := r1.ints
      subst e2
      exact op_in_seq pins s σ H _ _ v u Q I rx ry ⟨_, _, rfl, .inl (SqL.of (S.gh _ _ e1)), rfl, flat_ints ns, by
        rw [if_neg (by decide), inV_ints]
        exact q _ _ G H p S.grow (.bl _)⟩
end
end PD
/-! PDo: instances of one's own: made, read, changed by their methods; frozen for a method that only reads. -/
namespace PD
open PySem PySem.Spec PyProof.Rows L2

def frzF : List (Str × Fv) → List (Str × Dt)
  | [] => []
  | (f, .d x) :: fs => (f, x) :: frzF fs
  | (f, .own _ xs) :: fs => (f, .list xs) :: frzF fs
/-- the store of a field -/
def putV (f : Str) (v : Fv) : List (Str × Fv) → List (Str × Fv)
  | [] => [(f, v)]
  | (g, w) :: fs => if g = f then (g, v) :: fs else (g, w) :: putV f v fs
section
variable {K : Fg} {r0 r : Option Addr} {G0 H0 G H G' H' G1 H1 G2 H2 : Hp} {σ σ' : L2.St} {ρ ρ' : List PV} {C a : Addr} {fs fs' : List (Str × Fv)}
theorem RepF.lookup {f : Str} {x : Dt} : ∀ {vs : List (Str × V)} {fs : List (Str × Dt)}, RepF K G vs fs → fs.lookup f = some x → ∃ v, vs.lookup f = some v ∧ Rep K G v x
  | _, _, .nil, e => by simp at e
  | _, _, .cons (f := g) (vs := vs) (ds := ds) a b, e => by
    rw [List.lookup_cons] at e
    rw [List.lookup_cons]
    cases h : f == g with
    | true => rw [h] at e; cases e; exact ⟨_, rfl, a⟩
    | false => rw [h] at e; exact RepF.lookup b e
theorem ObF.lookup {f : Str} {x : Dt} : ∀ {vs : List (Str × V)} {fs : List (Str × Fv)}, ObF K G H vs fs → fs.lookup f = some (.d x) → ∃ v, vs.lookup f = some v ∧ Rep K G v x
  | _, _, .nil, e => by simp at e
  | _, _, .d (f := g) a b, e => by
    rw [List.lookup_cons] at e
    rw [List.lookup_cons]
    cases h : f == g with
    | true => rw [h] at e; cases e; exact ⟨_, rfl, a⟩
    | false => rw [h] at e; exact ObF.lookup b e
  | _, _, .own (f := g) e1 a b, e => by
    rw [List.lookup_cons] at e
    rw [List.lookup_cons]
    cases h : f == g with
    | true => rw [h] at e; cases e
    | false => rw [h] at e; exact ObF.lookup b e
theorem ObF.lookupO {f : Str} {b : Addr} {x : List Dt} : ∀ {vs : List (Str × V)} {fs : List (Str × Fv)}, ObF K G H vs fs → fs.lookup f = some (.own b x) → vs.lookup f = some (.ref b) ∧ b ∈ fps fs ∧ ∃ ws, H b = some (.lst ws) ∧ Reps K G ws x
  | _, _, .nil, e => by simp at e
  | _, _, .d (f := g) a c, e => by
    rw [List.lookup_cons] at e
    rw [List.lookup_cons]
    cases h : f == g with
    | true => rw [h] at e; cases e
    | false =>
      rw [h] at e
      obtain ⟨h1, h2, h3⟩ := ObF.lookupO c e
      exact ⟨h1, h2, h3⟩
  | _, _, .own (f := g) e1 a c, e => by
    rw [List.lookup_cons] at e
    rw [List.lookup_cons]
    cases h : f == g with
    | true => rw [h] at e; cases e; exact ⟨rfl, List.mem_cons_self .., _, e1, a⟩
    | false =>
      rw [h] at e
      obtain ⟨h1, h2, h3⟩ := ObF.lookupO c e
      exact ⟨h1, List.mem_cons_of_mem _ h2, h3⟩
theorem ObF.names : ∀ {vs : List (Str × V)} {fs : List (Str × Fv)}, ObF K G H vs fs → vs.map (·.1) = fs.map (·.1)
  | _, _, .nil => rfl
  | _, _, .d a b => by simp [ObF.names b]
  | _, _, .own e a b => by simp [ObF.names b]
theorem lookup_none {α : Type} {m : Str} : ∀ {vs : List (Str × α)}, (vs.map (·.1)).all (fun x => m != x) = true → vs.lookup m = none
  | [], _ => rfl
  | (f, v) :: vs, h => by
    simp only [List.map_cons, List.all_cons, Bool.and_eq_true] at h
    rw [List.lookup_cons]
    have : (m == f) = false := by simpa [bne] using h.1
    rw [this]
    exact lookup_none h.2
theorem ObF.frozen {GP : Hp} (g : Same G GP) : ∀ {vs : List (Str × V)} {fs : List (Str × Fv)}, ObF K G H vs fs → (∀ b ∈ fps fs, GP b = H b) → RepF K GP vs (frzF fs)
  | _, _, .nil, _ => .nil
  | _, _, .d a b, h => .cons (a.mono g) (ObF.frozen g b h)
  | _, _, .own e a b, h => .cons (.lst ((h _ (List.mem_cons_self ..)).trans e) (a.mono g)) (ObF.frozen g b fun c hc => h c (List.mem_cons_of_mem _ hc))
theorem ObF.kind {b : Addr} : ∀ {vs : List (Str × V)} {fs : List (Str × Fv)}, ObF K G H vs fs → b ∈ fps fs → ∃ ws, H b = some (.lst ws)
  | _, _, .nil, h => by cases h
  | _, _, .d a c, h => ObF.kind c h
  | _, _, .own e a c, h => by
    cases h with
    | head => exact ⟨_, e⟩
    | tail _ h => exact ObF.kind c h
/-! ### a frozen look at it -/
open Classical in
noncomputable def pinG (G H : Hp) (ws : List Addr) : Hp := fun b => if b ∈ ws then H b else G b
open Classical in
noncomputable def cutG (G : Hp) (ws : List Addr) : Hp := fun b => if b ∈ ws then none else G b
theorem pin_in {ws : List Addr} {b : Addr} (h : b ∈ ws) : pinG G H ws b = H b := if_pos h
theorem pin_out {ws : List Addr} {b : Addr} (h : b ∉ ws) : pinG G H ws b = G b := if_neg h
theorem cut_in {ws : List Addr} {b : Addr} (h : b ∈ ws) : cutG G ws b = none := if_pos h
theorem cut_out {ws : List Addr} {b : Addr} (h : b ∉ ws) : cutG G ws b = G b := if_neg h
theorem pin_same {ws : List Addr} (hb : ∀ b ∈ ws, G b = none) : Same G (pinG G H ws) := fun b o e => by
  rw [pin_out fun z => by rw [hb b z] at e; cases e]
  exact e
theorem Start.pin {ws : List Addr} (S : Start K r G H) : Start K none (pinG G H ws) H := ⟨fun b o e => by
  by_cases h : b ∈ ws
  · rw [pin_in h] at e; exact e
  · rw [pin_out h] at e; exact S.gh _ _ e, fun a e => by cases e⟩
theorem Grow.unpin {ws : List Addr} (W : Grow K none (pinG G H ws) H G2 H2) (S : Start K r G H) (hb : ∀ b ∈ ws, G b = none) : Grow K r G H (cutG G2 ws) H2 := by
  have g : Same G (cutG G2 ws) := fun b o e => by
    have n : b ∉ ws := fun z => by rw [hb b z] at e; cases e
    rw [cut_out n]
    exact W.g b o ((pin_out n).trans e)
  refine ⟨g, fun b o _ e => W.h b o (by simp) e, fun b o e => ?_, fun b o e n => ?_, fun a e => ?_⟩
  · by_cases h : b ∈ ws
    · rw [cut_in h] at e; cases e
    · rw [cut_out h] at e; exact W.gh _ _ e
  · by_cases h : b ∈ ws
    · exact cut_in h
    · rw [cut_out h]
      exact W.y b o e ((pin_out h).trans n)
  · have q := (S.row a e).2
    obtain ⟨_, _, _, _, _, h1, _⟩ := id q
    exact q.at g ((W.h a _ (by simp) h1).trans h1.symm)
def isIntB : Dt → Bool
  | .int _ => true
  | _ => false
def flatB : Dt → Bool
  | .int _ => true
  | .bool _ => true
  | .str _ => true
  | .none => true
  | .tuple xs => xs.all isIntB
  | _ => false
theorem reps_flat {ws : List Addr} : ∀ {vs : List V} {xs : List Dt}, xs.all isIntB = true → Reps K G2 vs xs → Reps K (cutG G2 ws) vs xs
  | _, _, _, .nil => .nil
  | _, _, h, .cons a b => by
    rw [List.all_cons, Bool.and_eq_true] at h
    refine .cons ?_ (reps_flat h.2 b)
    cases a with
    | int i => exact .int i
    | _ => exact absurd h.1 (by simp [isIntB])
theorem rep_flat {ws : List Addr} {v : V} {d : Dt} (hf : flatB d = true) (hk : ∀ b ∈ ws, ∀ xs o, G2 b ≠ some (.tup xs) ∧ G2 b ≠ some (.frz o (.tup xs))) (R : Rep K G2 v d) : Rep K (cutG G2 ws) v d := by
  cases R with
  | non => exact .non
  | bl b => exact .bl b
  | int i => exact .int i
  | str s => exact .str s
  | lst e q => exact absurd hf (by simp [flatB])
  | dic e q => exact absurd hf (by simp [flatB])
  | dicT e q => exact absurd hf (by simp [flatB])
  | tup e q =>
    rename_i c vs xs
    refine .tup ?_ (reps_flat (by simpa [flatB] using hf) q)
    exact (cut_out fun z => (hk c z vs default).1 e).trans e
theorem reps_args : ∀ {vs : List V} {xs : List Dt}, Reps K G vs xs → Args K r G vs (xs.map .d)
  | _, _, .nil => .nil
  | _, _, .cons a b => .cons a (reps_args b)
/-- a call of a method that only reads -/
theorem pure_call {F : PF} {vs : List V} {xs : List Dt} {P : Dt → Prop} {Q : VK} {E : XK} (S : Start K r G H) (O : ObR K G H C a fs) (hb : ∀ b ∈ a :: fps fs, G b = none ∧ r ≠ some b) (R : Reps K G vs xs)
    (p : F (.ins C (frzF fs) :: xs.map .d) fun d => flatB d = true ∧ P d) (q : ∀ v d G' H', P d → Grow K r G H G' H' → Rep K G' v d → Q v H') : liftF K F (.ref a :: vs) H Q E := by
  obtain ⟨⟨dx, ws, h1, h2⟩, nd⟩ := id O
  have g : Same G (pinG G H (a :: fps fs)) := pin_same fun b z => (hb b z).1
  refine ⟨none, pinG G H (a :: fps fs), .ins C (frzF fs) :: xs.map .d, _, S.pin, .cons ⟨a, dx, ws, rfl, (pin_in (List.mem_cons_self ..)).trans h1, h2.frozen g fun b z => pin_in (List.mem_cons_of_mem _ z)⟩ (reps_args (R.mono g)), p, fun v d G' H' ⟨f, p'⟩ W R' => ?_⟩
  refine q v d _ H' p' (W.unpin S fun b z => (hb b z).1) (rep_flat f (fun b z xs o => ?_) R')
  have hk : (∃ dy us, H b = some (.ins C dy us)) ∨ ∃ us, H b = some (.lst us) := by
    cases z with
    | head => exact .inl ⟨_, _, h1⟩
    | tail _ z => exact .inr (h2.kind z)
  have e : ∀ u, H b = some u → G' b = some u := fun u hu => W.g b u ((pin_in z).trans hu)
  rcases hk with ⟨dy, us, hu⟩ | ⟨us, hu⟩
  · rw [e _ hu]; exact ⟨by simp, by simp⟩
  · rw [e _ hu]; exact ⟨by simp, by simp⟩
/-! ### what is one's own is changed, made -/
theorem EnvR.obAt (E : EnvR K r G H σ ρ) {i : Nat} (e : ρ[i]? = some (.obj C a fs)) : σ[i]? = some (some (.ref a)) ∧ ObR K G H C a fs ∧ ∀ b ∈ a :: fps fs, G b = none ∧ r ≠ some b := by
  obtain ⟨o, h1, rfl, h2, h3⟩ := E.slot i _ e
  exact ⟨h1, h2, h3⟩
theorem set_self {i : Nat} {p q : PV} (e : (ρ.set i p)[i]? = some q) : p = q := by
  rw [List.getElem?_set] at e
  simp only [if_true] at e
  split at e
  · cases e; rfl
  · cases e
theorem EnvS.putG {i : Nat} (E : EnvS K r0 G0 H0 r G H σ ρ) (e : ρ[i]? = some (.obj C a fs)) (g : Same G G') (hk : ∀ b o, r ≠ some b → b ∉ a :: fps fs → H b = some o → H' b = some o) (gh : Same G' H')
    (y : ∀ b o, H b = some o → b ∉ a :: fps fs → G b = none → G' b = none) (row : ∀ c, r = some c → RowOk K G' H' c) (hO : ObR K G' H' C a fs') (hn : ∀ b ∈ a :: fps fs', (b ∈ a :: fps fs ∨ H b = none) ∧ G' b = none ∧ r ≠ some b) :
    EnvS K r0 G0 H0 r G' H' σ (ρ.set i (.obj C a fs')) := by
  obtain ⟨s1, O, hb⟩ := E.env.obAt e
  have hi : i < ρ.length := (List.getElem?_eq_some_iff.mp e).1
  have yo := E.yo i C a fs e
  have up : ∀ b o, H0 b = some o → r0 ≠ some b → H' b = some o := fun b o h n => by
    refine hk b o (fun z => ?_) (fun z => by rw [yo b z] at h; cases h) (E.gr.h b o n h)
    rcases E.rr with er | ⟨c, er, hc⟩
    · exact n (er ▸ z)
    · rw [er] at z; cases z; rw [hc] at h; cases h
  have other : ∀ {j : Nat} {D d : Addr} {gs : List (Str × Fv)}, (ρ.set i (.obj C a fs'))[j]? = some (.obj D d gs) → (j = i ∧ D = C ∧ d = a ∧ gs = fs') ∨ (j ≠ i ∧ ρ[j]? = some (.obj D d gs)) := fun {j D d gs} ej => by
    rcases get_set_obj ej with ⟨h1, h2⟩ | h2
    · cases h2; exact .inl ⟨h1, rfl, rfl, rfl⟩
    · exact .inr h2
  have fresh : ∀ {b : Addr}, b ∈ a :: fps fs' → ∀ {u : HO}, H b = some u → b ∈ a :: fps fs := fun {b} h {u} hu => by
    rcases (hn b h).1 with z | z
    · exact z
    · rw [z] at hu; cases hu
  refine ⟨⟨⟨gh, fun c ec => ⟨?_, row c ec⟩⟩, by simp [E.env.len], fun j q eq => ?_, fun j k c x' y' e1 e2 e3 e4 => ?_, fun k j D d gs ek => ⟨fun x ex b hb' => ?_, fun D2 d2 gs2 ej nk b hb' => ?_⟩⟩, ⟨E.gr.g.trans g, fun b o n h => up b o h n, gh, fun b o h n => ?_, fun c ec => ?_⟩, E.rr, E.rh, fun j c x e1 e2 => ?_, fun j D d gs ej b hb' => ?_⟩
  · obtain ⟨q1, q2⟩ := E.env.st.row c ec
    obtain ⟨_, _, _, _, _, h1, _⟩ := id q2
    exact y c _ h1 (fun z => (hb c z).2 ec) q1
  · by_cases hj : j = i
    · subst hj
      rw [List.getElem?_set_self hi] at eq
      cases eq
      exact ⟨_, s1, rfl, hO, fun b z => (hn b z).2⟩
    · rw [List.getElem?_set_ne (Ne.symm hj)] at eq
      obtain ⟨o', q1, q2⟩ := E.env.slot j q eq
      refine ⟨o', q1, ?_⟩
      cases q with
      | un => trivial
      | d x =>
        obtain ⟨v, rfl, q2⟩ := q2
        exact ⟨v, rfl, q2.mono g⟩
      | own z =>
        obtain ⟨c, rfl, gc, rc, q3⟩ := q2
        have nc : c ∉ a :: fps fs := fun w => (E.env.apart i j C a fs e).1 z eq c w q1
        obtain ⟨u, hu⟩ := q3.some
        exact ⟨c, rfl, y c u hu nc gc, rc, q3.at g ((hk c u rc nc hu).trans hu.symm)⟩
      | row => exact q2
      | scr ns =>
        obtain ⟨c, rfl, q2⟩ := q2
        exact ⟨c, rfl, g.seq q2⟩
      | rng lo hi =>
        obtain ⟨c, rfl, q2⟩ := q2
        exact ⟨c, rfl, g _ _ q2⟩
      | ins D gs =>
        obtain ⟨c, dx, vs, rfl, q2, q3⟩ := q2
        exact ⟨c, dx, vs, rfl, g _ _ q2, q3.mono g⟩
      | obj D d gs =>
        obtain ⟨rfl, q3, q4⟩ := q2
        have nb : ∀ b ∈ d :: fps gs, b ∉ a :: fps fs := (E.env.apart j i D d gs eq).2 C a fs e hj
        refine ⟨rfl, q3.at g fun b hb' => ?_, fun b hb' => ?_⟩
        · obtain ⟨u, hu⟩ := q3.there b hb'
          exact (hk b u (q4 b hb').2 (nb b hb') hu).trans hu.symm
        · obtain ⟨u, hu⟩ := q3.there b hb'
          exact ⟨y b u hu (nb b hb') (q4 b hb').1, (q4 b hb').2⟩
      | fz p =>
        obtain ⟨v, rfl, q2⟩ := q2
        exact ⟨v, rfl, fun G2 g2 => q2 G2 (g.trans g2)⟩
  · rcases get_set_own e1 with ⟨_, z⟩ | ⟨n1, f1⟩
    · cases z
    rcases get_set_own e2 with ⟨_, z⟩ | ⟨n2, f2⟩
    · cases z
    exact E.env.dist j k c x' y' f1 f2 e3 e4
  · rcases get_set_own ex with ⟨_, z⟩ | ⟨n2, f2⟩
    · cases z
    rcases other ek with ⟨rfl, rfl, rfl, rfl⟩ | ⟨n1, f1⟩
    · intro z
      obtain ⟨c, h1, _, _, h2⟩ := E.env.getO f2
      rw [z] at h1
      cases h1
      obtain ⟨u, hu⟩ := h2.some
      exact (E.env.apart k j D d fs e).1 x f2 b (fresh hb' hu) z
    · exact (E.env.apart k j D d gs f1).1 x f2 b hb'
  · rcases other ek with ⟨rfl, rfl, rfl, rfl⟩ | ⟨n1, f1⟩
    · rcases other ej with ⟨rfl, _⟩ | ⟨n2, f2⟩
      · exact absurd rfl nk
      · intro z
        obtain ⟨u, hu⟩ := (E.env.obAt f2).2.1.there b z
        exact (E.env.apart k j D d fs e).2 D2 d2 gs2 f2 nk b (fresh hb' hu) z
    · rcases other ej with ⟨rfl, rfl, rfl, rfl⟩ | ⟨n2, f2⟩
      · intro z
        obtain ⟨u, hu⟩ := (E.env.obAt f1).2.1.there b hb'
        exact (E.env.apart k j D d gs f1).2 D2 d2 fs e nk b hb' (fresh z hu)
      · exact (E.env.apart k j D d gs f1).2 D2 d2 gs2 f2 nk b hb'
  · obtain ⟨u, hu⟩ := E.gr.there h
    exact y b u hu (fun z => by rw [yo b z] at h; cases h) (E.gr.y b o h n)
  · rcases E.rr with er | ⟨d, er, hd⟩
    · exact row c (er.trans ec)
    · obtain ⟨o, ho⟩ := E.rh c ec
      have q := E.gr.row c ec
      obtain ⟨_, _, _, _, _, h1, _⟩ := id q
      refine q.at g ((hk c _ (fun z => ?_) (fun z => by rw [yo c z] at ho; cases ho) h1).trans h1.symm)
      rw [er] at z; cases z; rw [hd] at ho; cases ho
  · rcases get_set_own e1 with ⟨_, z⟩ | ⟨n2, f2⟩
    · cases z
    exact E.yg j c x f2 e2
  · rcases other ej with ⟨rfl, rfl, rfl, rfl⟩ | ⟨n1, f1⟩
    · rcases (hn b hb').1 with z | z
      · exact yo b z
      · cases q : H0 b with
        | none => rfl
        | some u =>
          obtain ⟨u', hu⟩ := E.gr.there q
          rw [z] at hu; cases hu
    · exact E.yo j D d gs f1 b hb'
theorem EnvS.takeO {i : Nat} (E : EnvS K r0 G0 H0 r G H σ ρ) (W : Grow K r G H G' H') (hO : ObR K G' H' C a fs) (hn : ∀ b ∈ a :: fps fs, H b = none ∧ G' b = none ∧ r ≠ some b) (hi : i < ρ.length) :
    EnvS K r0 G0 H0 r G' H' (σ.set i (some (.ref a))) (ρ.set i (.obj C a fs)) := by
  have E1 := E.grow W
  have other : ∀ {j : Nat} {D d : Addr} {gs : List (Str × Fv)}, (ρ.set i (.obj C a fs))[j]? = some (.obj D d gs) → (j = i ∧ D = C ∧ d = a ∧ gs = fs) ∨ (j ≠ i ∧ ρ[j]? = some (.obj D d gs)) := fun {j D d gs} ej => by
    rcases get_set_obj ej with ⟨h1, h2⟩ | h2
    · cases h2; exact .inl ⟨h1, rfl, rfl, rfl⟩
    · exact .inr h2
  have new : ∀ {b : Addr}, b ∈ a :: fps fs → ∀ {u : HO}, H b ≠ some u := fun {b} h {u} hu => by rw [(hn b h).1] at hu; cases hu
  refine ⟨⟨E1.env.st, by simp [E.env.len], fun j q eq => ?_, fun j k c x' y' e1 e2 e3 e4 => ?_, fun k j D d gs ek => ⟨fun x ex b hb' => ?_, fun D2 d2 gs2 ej nk b hb' => ?_⟩⟩, E1.gr, E.rr, E.rh, fun j c x e1 e2 => ?_, fun j D d gs ej b hb' => ?_⟩
  · by_cases hj : j = i
    · subst hj
      rw [List.getElem?_set_self hi] at eq
      cases eq
      exact ⟨_, List.getElem?_set_self (by rw [E.env.len]; exact hi), rfl, hO, fun b z => (hn b z).2⟩
    · rw [List.getElem?_set_ne (Ne.symm hj)] at eq ⊢
      exact E1.env.slot j q eq
  · rcases get_set_own e1 with ⟨_, z⟩ | ⟨n1, f1⟩
    · cases z
    rcases get_set_own e2 with ⟨_, z⟩ | ⟨n2, f2⟩
    · cases z
    rw [List.getElem?_set_ne (Ne.symm n1)] at e3
    rw [List.getElem?_set_ne (Ne.symm n2)] at e4
    exact E.env.dist j k c x' y' f1 f2 e3 e4
  · rcases get_set_own ex with ⟨_, z⟩ | ⟨n2, f2⟩
    · cases z
    rw [List.getElem?_set_ne (Ne.symm n2)]
    rcases other ek with ⟨rfl, rfl, rfl, rfl⟩ | ⟨n1, f1⟩
    · intro z
      obtain ⟨c, h1, _, _, h2⟩ := E.env.getO f2
      rw [z] at h1
      cases h1
      obtain ⟨u, hu⟩ := h2.some
      exact new hb' hu
    · exact (E.env.apart k j D d gs f1).1 x f2 b hb'
  · rcases other ek with ⟨rfl, rfl, rfl, rfl⟩ | ⟨n1, f1⟩
    · rcases other ej with ⟨rfl, _⟩ | ⟨n2, f2⟩
      · exact absurd rfl nk
      · intro z
        obtain ⟨u, hu⟩ := (E.env.obAt f2).2.1.there b z
        exact new hb' hu
    · rcases other ej with ⟨rfl, rfl, rfl, rfl⟩ | ⟨n2, f2⟩
      · intro z
        obtain ⟨u, hu⟩ := (E.env.obAt f1).2.1.there b hb'
        exact new z hu
      · exact (E.env.apart k j D d gs f1).2 D2 d2 gs2 f2 nk b hb'
  · rcases get_set_own e1 with ⟨_, z⟩ | ⟨n2, f2⟩
    · cases z
    rw [List.getElem?_set_ne (Ne.symm n2)] at e2
    exact E.yg j c x f2 e2
  · rcases other ej with ⟨rfl, rfl, rfl, rfl⟩ | ⟨n1, f1⟩
    · cases q : H0 b with
      | none => rfl
      | some u =>
        obtain ⟨u', hu⟩ := E.gr.there q
        exact absurd hu (new hb')
    · exact E.yo j D d gs f1 b hb'
end
end PD
/-! PDv: rules over instances: fields, methods, a new one. -/
namespace PD
open PySem PySem.Spec PyProof.Rows L2

section
variable {X : Cx} {pos p0 apos : Pos} {C : Addr} {f : Str} {te : PT0} {e : Expr}
/-- self.f, self frozen -/
def dFldZ (i : Nat) (C : Addr) (f : Str) : PT0 := fun ρ P => ∃ fs, ρ[i]? = some (.ins C fs) ∧ ∃ x, fs.lookup f = some x ∧ P x
theorem de_fldZ (i : Nat) {x : Str} (T : Cls X.K C) (n : NoAttr X.K C f) (hN : X.N[i]? = some x := by rfl) (hv : Vis X.env.scope x := by first | exact Or.inl rfl | exact Or.inr (Or.inl rfl) | exact Or.inr (Or.inr rfl)) (hd : (x == ("__debug__" : Str)) = false := by decide)
    (hcd : (x == ("__classdict__" : Str)) = false := by decide) (hb : attributeBase (.Name x p0) f X.env (eval (.Name x p0) X.env) = eval (.Name x p0) X.env := by rfl) : DE X (.Attribute (.Name x p0) f pos) (dFldZ i C f) :=
  PE.weak (pe_fld (pe_var hN hv hd hcd) hb) fun σ H Q ⟨r, G, ρ, P, E, ⟨fs, e, y, el, p⟩, q⟩ => by
    obtain ⟨o, h1, a, dx, vs, rfl, h2, h3⟩ := E.slot i _ e
    obtain ⟨v, h4, h5⟩ := h3.lookup el
    exact ⟨.ref a, h1, a, C, dx, vs, v, rfl, E.st.gh _ _ h2, T, n, h4, q v y G H p E.st.grow h5⟩
/-- self.f, self one's own, the field data -/
def dFldO (i : Nat) (C : Addr) (f : Str) : PT0 := fun ρ P => ∃ a fs, ρ[i]? = some (.obj C a fs) ∧ ∃ x, fs.lookup f = some (.d x) ∧ P x
theorem de_fldO (i : Nat) {x : Str} (T : Cls X.K C) (n : NoAttr X.K C f) (hN : X.N[i]? = some x := by rfl) (hv : Vis X.env.scope x := by first | exact Or.inl rfl | exact Or.inr (Or.inl rfl) | exact Or.inr (Or.inr rfl)) (hd : (x == ("__debug__" : Str)) = false := by decide)
    (hcd : (x == ("__classdict__" : Str)) = false := by decide) (hb : attributeBase (.Name x p0) f X.env (eval (.Name x p0) X.env) = eval (.Name x p0) X.env := by rfl) : DE X (.Attribute (.Name x p0) f pos) (dFldO i C f) :=
  PE.weak (pe_fld (pe_var hN hv hd hcd) hb) fun σ H Q ⟨r, G, ρ, P, E, ⟨a, fs, e, y, el, p⟩, q⟩ => by
    obtain ⟨h1, ⟨⟨dx, vs, h2, h3⟩, nd⟩, hb⟩ := E.obAt e
    obtain ⟨v, h4, h5⟩ := h3.lookup el
    exact ⟨.ref a, h1, a, C, dx, vs, v, rfl, h2, T, n, h4, q v y G H p E.st.grow h5⟩
/-- is the field's value no list of its own -/
def noOwn (f : Str) (fs : List (Str × Fv)) : Bool := match fs.lookup f with
  | some (.own _ _) => false
  | _ => true
theorem putV_fps {f : Str} {x : Dt} : ∀ {fs : List (Str × Fv)}, noOwn f fs = true → fps (putV f (.d x) fs) = fps fs
  | [], _ => rfl
  | (g, w) :: fs, h => by
    unfold putV
    by_cases hg : g = f
    · rw [if_pos hg]
      subst hg
      unfold noOwn at h
      rw [List.lookup_cons] at h
      simp only [beq_self_eq_true] at h
      cases w with
      | d y => rfl
      | own b y => simp at h
    · rw [if_neg hg]
      have h' : noOwn f fs = true := by
        unfold noOwn at h ⊢
        rw [List.lookup_cons] at h
        have : (f == g) = false := by simpa [beq_eq_false_iff_ne] using fun z : f = g => hg z.symm
        rw [this] at h
        exact h
      cases w with
      | d y => exact putV_fps h'
      | own b y => show b :: fps (putV f (.d x) fs) = b :: fps fs; rw [putV_fps h']
theorem ObF.put {K : Fg} {G H : Hp} {v : V} {x : Dt} (R : Rep K G v x) : ∀ {vs : List (Str × V)} {fs : List (Str × Fv)}, ObF K G H vs fs → ObF K G H (putF f v vs) (putV f (.d x) fs)
  | _, _, .nil => .d R .nil
  | _, _, .d (f := g) (v := u) (vs := vs) (d := y) (fs := fs) a b => by
    show ObF K G H (if g = f then (g, v) :: vs else (g, u) :: putF f v vs) (if g = f then (g, .d x) :: fs else (g, .d y) :: putV f (.d x) fs)
    by_cases h : g = f
    · rw [if_pos h, if_pos h]; exact .d R b
    · rw [if_neg h, if_neg h]; exact .d a (ObF.put R b)
  | _, _, .own (f := g) (b := c) (vs := vs) (xs := y) (fs := fs) e1 a b => by
    show ObF K G H (if g = f then (g, v) :: vs else (g, .ref c) :: putF f v vs) (if g = f then (g, .d x) :: fs else (g, .own c y) :: putV f (.d x) fs)
    by_cases h : g = f
    · rw [if_pos h, if_pos h]; exact .d R b
    · rw [if_neg h, if_neg h]; exact .own e1 a (ObF.put R b)
theorem ObF.putN {K : Fg} {G H : Hp} {c : Addr} {us : List V} {xs : List Dt} (e : H c = some (.lst us)) (R : Reps K G us xs) : ∀ {vs : List (Str × V)} {fs : List (Str × Fv)}, ObF K G H vs fs → ObF K G H (putF f (.ref c) vs) (putV f (.own c xs) fs)
  | _, _, .nil => .own e R .nil
  | _, _, .d (f := g) (v := u) (vs := vs) (d := y) (fs := fs) a b => by
    show ObF K G H (if g = f then (g, .ref c) :: vs else (g, u) :: putF f (.ref c) vs) (if g = f then (g, .own c xs) :: fs else (g, .d y) :: putV f (.own c xs) fs)
    by_cases h : g = f
    · rw [if_pos h, if_pos h]; exact .own e R b
    · rw [if_neg h, if_neg h]; exact .d a (ObF.putN e R b)
  | _, _, .own (f := g) (b := d0) (vs := vs) (xs := y) (fs := fs) e1 a b => by
    show ObF K G H (if g = f then (g, .ref c) :: vs else (g, .ref d0) :: putF f (.ref c) vs) (if g = f then (g, .own c xs) :: fs else (g, .own d0 y) :: putV f (.own c xs) fs)
    by_cases h : g = f
    · rw [if_pos h, if_pos h]; exact .own e R b
    · rw [if_neg h, if_neg h]; exact .own e1 a (ObF.putN e R b)
theorem putF_len (f : Str) (v : V) : ∀ fs : List (Str × V), (putF f v fs).length ≤ fs.length + 1
  | [] => Nat.le_refl _
  | (g, w) :: fs => by
    show (if g = f then (g, v) :: fs else (g, w) :: putF f v fs).length ≤ _
    by_cases h : g = f
    · rw [if_pos h]; simp
    · rw [if_neg h]; have := putF_len f v fs; simp; omega
theorem ObF.length {K : Fg} {G H : Hp} : ∀ {vs : List (Str × V)} {fs : List (Str × Fv)}, ObF K G H vs fs → vs.length = fs.length
  | _, _, .nil => rfl
  | _, _, .d a b => by simp [ObF.length b]
  | _, _, .own e a b => by simp [ObF.length b]
/-- self's own record is changed, its lists stay -/
theorem EnvS.putF {K : Fg} {r0 r : Option Addr} {G0 H0 G H : Hp} {σ : L2.St} {ρ : List PV} {a : Addr} {fs : List (Str × Fv)} {i : Nat} {v : V} {x : Dt} {dx : Addr} {vs : List (Str × V)} (E : EnvS K r0 G0 H0 r G H σ ρ) (e : ρ[i]? = some (.obj C a fs)) (h1 : H a = some (.ins C dx vs)) (h2 : ObF K G H vs fs) (no : noOwn f fs = true) (R : Rep K G v x) :
    EnvS K r0 G0 H0 r G (upd H a (.ins C dx (L2.putF f v vs))) σ (ρ.set i (.obj C a (putV f (.d x) fs))) := by
  obtain ⟨s1, O, hb⟩ := E.env.obAt e
  have nd := O.nd
  have na : ∀ b ∈ fps fs, b ≠ a := fun b z w => by subst w; exact (List.nodup_cons.mp nd).1 z
  refine E.putG e (Same.refl _) (fun b o n nb hb' => ?_) (fun b o g => ?_) (fun _ _ _ _ z => z) (fun c ec => ?_) ⟨⟨dx, _, upd_same, ObF.put R (h2.at (Same.refl _) fun b z => upd_ne (na b z))⟩, by rw [putV_fps no]; exact nd⟩ (fun b z => ?_)
  · rw [upd_ne fun w => by subst w; exact nb (List.mem_cons_self ..)]; exact hb'
  · rw [upd_ne fun w => by subst w; rw [(hb _ (List.mem_cons_self ..)).1] at g; cases g]; exact E.env.st.gh _ _ g
  · obtain ⟨_, q⟩ := E.env.st.row c ec
    exact q.at (Same.refl _) (upd_ne fun w => by subst w; exact (hb _ (List.mem_cons_self ..)).2 ec)
  · rw [putV_fps no] at z
    exact ⟨.inl z, hb b z⟩
/-- self.f = e, e data -/
def sFldD (i : Nat) (C : Addr) (f : Str) (te : PT0) : PTS := fun P ρ => te ρ fun x => ∃ a fs, ρ[i]? = some (.obj C a fs) ∧ fs.length < 1000 ∧ noOwn f fs = true ∧ P.nx (ρ.set i (.obj C a (putV f (.d x) fs)))
theorem ds_fldD (i : Nat) {x : Str} (T : Cls X.K C) (n : NoAttr X.K C f) (he : DE X e te) (hN : X.N[i]? = some x := by rfl) (hv : Vis X.env.scope x := by first | exact Or.inl rfl | exact Or.inr (Or.inl rfl) | exact Or.inr (Or.inr rfl)) (hd : (x == ("__debug__" : Str)) = false := by decide)
    (hcd : (x == ("__classdict__" : Str)) = false := by decide) (hs : swapsWith e (some (.Attribute (.Name x p0) f apos)) pos.line X.env = pure false := by rfl) : DS X (.Assign [.Attribute (.Name x p0) f apos] e pos) (sFldD i C f te) :=
  PS.weak (ps_fld (pe_var hN hv hd hcd) he hs) fun Dn σ H ⟨r0, G0, H0, r, G, ρ, P, E, p, q⟩ => ⟨r, G, ρ, _, E.env, p, fun v y G1 H1 ⟨a, fs, e, hl, no, p1⟩ W R => by
    have E1 := E.grow W
    obtain ⟨h1, ⟨⟨dx, vs, h2, h3⟩, nd⟩, hb⟩ := E1.env.obAt e
    exact ⟨.ref a, h1, a, C, dx, vs, rfl, h2, T, n, by rw [h3.length]; exact hl, q.nx _ _ _ _ _ p1 (E1.putF e h2 h3 no R)⟩⟩
/-- self.f += e, ints -/
def sFldA (i : Nat) (C : Addr) (f : Str) (te : PT0) : PTS := fun P ρ => ∃ a fs, ρ[i]? = some (.obj C a fs) ∧ ∃ m : Int, fs.lookup f = some (.d (.int m)) ∧ te ρ fun y => ∃ k : Int, y = .int k ∧ fs.length < 1000 ∧ P.nx (ρ.set i (.obj C a (putV f (.d (.int (m + k))) fs)))
theorem ds_fldA (i : Nat) {x : Str} (T : Cls X.K C) (n : NoAttr X.K C f) (he : DE X e te) (hN : X.N[i]? = some x := by rfl) (hv : Vis X.env.scope x := by first | exact Or.inl rfl | exact Or.inr (Or.inl rfl) | exact Or.inr (Or.inr rfl)) (hd : (x == ("__debug__" : Str)) = false := by decide)
    (hcd : (x == ("__classdict__" : Str)) = false := by decide) : DS X (.AugAssign (.Attribute (.Name x p0) f apos) .Add e pos) (sFldA i C f te) :=
  PS.weak (ps_fldaug (pe_var hN hv hd hcd) he in_add) fun Dn σ H ⟨r0, G0, H0, r, G, ρ, P, E, ⟨a, fs, e, m, el, p⟩, q⟩ => by
    obtain ⟨h1, ⟨⟨dx, vs, h2, h3⟩, nd⟩, hb⟩ := E.env.obAt e
    obtain ⟨v, h4, h5⟩ := h3.lookup el
    cases h5
    refine ⟨.ref a, h1, a, C, dx, vs, _, rfl, h2, T, n, h4, r, G, ρ, _, E.env, p, fun v y G1 H1 ⟨k, ey, hl, p1⟩ W R => ?_⟩
    subst ey
    cases R
    have E1 := E.grow W
    obtain ⟨g1, ⟨⟨dx', vs', g2, g3⟩, nd'⟩, hb'⟩ := E1.env.obAt e
    have no : noOwn f fs = true := by unfold noOwn; rw [el]
    exact ⟨m, k, rfl, rfl, dx', vs', g2, by rw [g3.length]; exact hl, q.nx _ _ _ _ _ p1 (E1.putF e g2 g3 no (.int _))⟩
/-- self.f = [], a list of self's own -/
theorem putN_fps {f : Str} {c : Addr} {xs : List Dt} : ∀ {fs : List (Str × Fv)}, fs.lookup f = none → fps (putV f (.own c xs) fs) = fps fs ++ [c]
  | [], _ => rfl
  | (g, w) :: fs, h => by
    rw [List.lookup_cons] at h
    cases hg : f == g with
    | true => rw [hg] at h; cases h
    | false =>
      rw [hg] at h
      have ne : ¬ g = f := fun z => by subst z; simp at hg
      unfold putV
      rw [if_neg ne]
      cases w with
      | d y => exact putN_fps h
      | own b y => show b :: fps (putV f (.own c xs) fs) = b :: (fps fs ++ [c]); rw [putN_fps h]
def sFldL (i : Nat) (C : Addr) (f : Str) : PTS := fun P ρ => ∃ a fs, ρ[i]? = some (.obj C a fs) ∧ fs.length < 1000 ∧ fs.lookup f = none ∧ ∀ c : Addr, P.nx (ρ.set i (.obj C a (putV f (.own c []) fs)))
theorem ds_fldL (i : Nat) {x : Str} {p2 : Pos} (T : Cls X.K C) (n : NoAttr X.K C f) (hN : X.N[i]? = some x := by rfl) (hv : Vis X.env.scope x := by first | exact Or.inl rfl | exact Or.inr (Or.inl rfl) | exact Or.inr (Or.inr rfl)) (hd : (x == ("__debug__" : Str)) = false := by decide)
    (hcd : (x == ("__classdict__" : Str)) = false := by decide) (hs : swapsWith (.List [] p2) (some (.Attribute (.Name x p0) f apos)) pos.line X.env = pure false := by rfl) : DS X (.Assign [.Attribute (.Name x p0) f apos] (.List [] p2) pos) (sFldL i C f) :=
  PS.weak (ps_fld (pe_var hN hv hd hcd) (pe_lst pa_nil) hs) fun Dn σ H ⟨r0, G0, H0, r, G, ρ, P, E, ⟨a, fs, e, hl, no, p1⟩, q⟩ => by
    obtain ⟨h1, ⟨⟨dx, vs, h2, h3⟩, nd⟩, hb⟩ := E.env.obAt e
    refine ⟨by show 0 ≤ sizeLine; decide, fun c hc => ⟨.ref a, h1, a, C, dx, vs, rfl, ?_, T, n, by rw [h3.length]; exact hl, ?_⟩⟩
    · rw [upd_ne (ne_of_none h2 hc)]; exact h2
    · have nac : a ≠ c := ne_of_none h2 hc
      have nb : ∀ b ∈ fps fs, b ≠ c := fun b z => by
        obtain ⟨u, hu⟩ := h3.there b z
        exact ne_of_none hu hc
      have na : ∀ b ∈ fps fs, b ≠ a := fun b z w => by subst w; exact (List.nodup_cons.mp nd).1 z
      have h3' : ObF X.K G (upd (upd H c (.lst [])) a (.ins C dx (L2.putF f (.ref c) vs))) vs fs := h3.at (Same.refl _) fun b z => by rw [upd_ne (na b z), upd_ne (nb b z)]
      refine q.nx _ _ _ _ _ (p1 c) (E.putG e (Same.refl _) (fun b o n nb' hb' => ?_) (fun b o g => ?_) (fun _ _ _ _ z => z) (fun d ec => ?_) ⟨⟨dx, _, upd_same, ObF.putN (by rw [upd_ne nac.symm, upd_same]) .nil h3'⟩, ?_⟩ (fun b z => ?_))
      · rw [upd_ne (fun w => by subst w; exact nb' (List.mem_cons_self ..)), upd_ne (ne_of_none hb' hc)]; exact hb'
      · rw [upd_ne (fun w => by subst w; rw [(hb _ (List.mem_cons_self ..)).1] at g; cases g), upd_ne (ne_of_none (E.env.st.gh _ _ g) hc)]; exact E.env.st.gh _ _ g
      · obtain ⟨_, q⟩ := E.env.st.row d ec
        obtain ⟨_, _, _, _, _, q1, _⟩ := id q
        exact q.at (Same.refl _) (by rw [upd_ne (fun w => by subst w; exact (hb _ (List.mem_cons_self ..)).2 ec), upd_ne (ne_of_none q1 hc)])
      · rw [putN_fps no, ← List.cons_append, List.nodup_append]
        refine ⟨nd, by simp, fun b z d w => ?_⟩
        rw [List.mem_singleton] at w
        subst w
        cases z with
        | head => exact nac
        | tail _ z => exact nb b z
      · rw [putN_fps no, ← List.cons_append, List.mem_append, List.mem_singleton] at z
        rcases z with z | rfl
        · exact ⟨.inl z, hb b z⟩
        · exact ⟨.inr hc, E.env.st.gh.free hc, E.env.st.rowNe hc⟩
/-- self.f.append(e) -/
def appV (f : Str) (x : Dt) : List (Str × Fv) → List (Str × Fv)
  | [] => []
  | (g, .d y) :: fs => (g, .d y) :: appV f x fs
  | (g, .own b xs) :: fs => if g = f then (g, .own b (xs ++ [x])) :: fs else (g, .own b xs) :: appV f x fs
theorem appV_fps {f : Str} {x : Dt} : ∀ {fs : List (Str × Fv)}, fps (appV f x fs) = fps fs
  | [] => rfl
  | (g, .d y) :: fs => appV_fps (fs := fs)
  | (g, .own b xs) :: fs => by
    unfold appV
    by_cases h : g = f
    · rw [if_pos h]; rfl
    · rw [if_neg h]; show b :: fps (appV f x fs) = b :: fps fs; rw [appV_fps]
theorem ObF.app {K : Fg} {G H H' : Hp} {f : Str} {c : Addr} {us : List V} {v : V} {x : Dt} {xs : List Dt} (hc : H' c = some (.lst (us ++ [v]))) (hu : H c = some (.lst us)) (R : Rep K G v x) (ho : ∀ b, b ≠ c → ∀ o, H b = some o → H' b = some o) :
    ∀ {vs : List (Str × V)} {fs : List (Str × Fv)}, ObF K G H vs fs → (fps fs).Nodup → fs.lookup f = some (.own c xs) → ObF K G H' vs (appV f x fs)
  | _, _, .nil, _, e => by simp at e
  | _, _, .d (f := g) (v := u) (vs := vs) (d := y) (fs := fs) a b, nd, e => by
    rw [List.lookup_cons] at e
    cases h : f == g with
    | true => rw [h] at e; cases e
    | false => rw [h] at e; exact ObF.d a (ObF.app hc hu R ho b nd e)
  | _, _, .own (f := g) (b := d0) (vs := vs) (xs := y) (fs := fs) e1 a b, nd, e => by
    rw [List.lookup_cons] at e
    have nd1 := (List.nodup_cons.mp (show (d0 :: fps fs).Nodup from nd))
    cases h : f == g with
    | true =>
      rw [h] at e
      cases e
      rw [hu] at e1
      cases e1
      have hg : g = f := (by simpa using h : f = g).symm
      unfold appV
      rw [if_pos hg]
      refine .own hc (a.snoc R) (b.at (Same.refl _) fun b' z => ?_)
      obtain ⟨u, hu'⟩ := b.there b' z
      exact (ho b' (fun w => by subst w; exact nd1.1 z) u hu').trans hu'.symm
    | false =>
      rw [h] at e
      have hg : ¬ g = f := fun z => by subst z; simp at h
      unfold appV
      rw [if_neg hg]
      have ne : d0 ≠ c := fun z => by subst z; exact nd1.1 (b.lookupO e).2.1
      exact .own (ho d0 ne _ e1) a (ObF.app hc hu R ho b nd1.2 e)
def sFldApp (i : Nat) (C : Addr) (f : Str) (te : PT0) : PTS := fun P ρ => ∃ a fs, ρ[i]? = some (.obj C a fs) ∧ ∃ c xs, fs.lookup f = some (.own c xs) ∧ te ρ fun y => xs.length < sizeLine ∧ P.nx (ρ.set i (.obj C a (appV f y fs)))
theorem ds_fldApp (i : Nat) {x : Str} {cpos ap2 : Pos} (T : Cls X.K C) (n : NoAttr X.K C f) (he : DE X e te) (hN : X.N[i]? = some x := by rfl) (hv : Vis X.env.scope x := by first | exact Or.inl rfl | exact Or.inr (Or.inl rfl) | exact Or.inr (Or.inr rfl)) (hd : (x == ("__debug__" : Str)) = false := by decide)
    (hcd : (x == ("__classdict__" : Str)) = false := by decide) (hb : attributeBase (.Name x p0) f X.env (eval (.Name x p0) X.env) = eval (.Name x p0) X.env := by rfl)
    (hs : starEach (e :: []) X.env = (false, eval e X.env) :: starEach [] X.env := by rfl) (hbase : attributeBase (.Attribute (.Name x p0) f ap2) "append" X.env (eval (.Attribute (.Name x p0) f ap2) X.env) = eval (.Attribute (.Name x p0) f ap2) X.env := by rfl)
    (hfew : ((backTo cpos (starEach (e :: []) X.env)).all (fun x => !x.1) && (backToKw cpos (keywordEach [] X.env)).all (fun x => x.1.isSome) && decide ((e :: ([] : List Expr)).length + ([] : List Keyword).length + (if ([] : List Keyword).isEmpty then 0 else 1) < 30)) = true := by rfl)
    (hline : (apos.endLine == cpos.line) = true := by rfl) (hplain : (backTo cpos (starEach [] X.env)).any (·.1) = false := by rfl) (hsw : swapsWith (.Call (.Attribute (.Attribute (.Name x p0) f ap2) "append" apos) [e] [] cpos) none pos.line X.env = pure false := by rfl) :
    DS X (.Expr (.Call (.Attribute (.Attribute (.Name x p0) f ap2) "append" apos) [e] [] cpos) pos) (sFldApp i C f te) :=
  PS.weak (ps_expr (pe_bm PySem.F.plainAttrs_list PySem.F.slot_list_append PySem.F.type_list_append mt_append (pe_fld (pe_var hN hv hd hcd) hb) (pa_cons he pa_nil hs) hbase hfew hline hs hplain) hsw) fun Dn σ H ⟨r0, G0, H0, r, G, ρ, P, E, ⟨a, fs, e, c, xs, el, p⟩, q⟩ => by
    obtain ⟨h1, ⟨⟨dx, vs, h2, h3⟩, nd⟩, hb⟩ := E.env.obAt e
    obtain ⟨l1, l2, us, l3, l4⟩ := h3.lookupO el
    refine ⟨.ref a, h1, a, C, dx, vs, _, rfl, h2, T, n, l1, .inl ⟨rfl, _, SqL.of l3⟩, r, G, ρ, _, E.env, p, fun v y G1 H1 ⟨hl, p1⟩ W R => ?_⟩
    have E1 := E.grow W
    obtain ⟨g1, ⟨⟨dx', vs', g2, g3⟩, nd'⟩, hb'⟩ := E1.env.obAt e
    obtain ⟨m1, m2, us', m3, m4⟩ := g3.lookupO el
    have nac : a ≠ c := fun z => by subst z; exact (List.nodup_cons.mp nd').1 m2
    refine ⟨c, us', v, rfl, rfl, m3, by rw [m4.length]; exact hl, ?_⟩
    refine q.nx _ _ _ _ _ p1 (E1.putG e (Same.refl _) (fun b o n nb' hb'' => ?_) (fun b o g => ?_) (fun _ _ _ _ z => z) (fun d ec => ?_) ⟨⟨dx', vs', (upd_ne nac).trans g2, ObF.app upd_same m3 R (fun b z o hb'' => (upd_ne z).trans hb'') g3 (List.nodup_cons.mp nd').2 el⟩, by rw [appV_fps]; exact nd'⟩ (fun b z => ?_))
    · rw [upd_ne fun w => by subst w; exact nb' (List.mem_cons_of_mem _ m2)]; exact hb''
    · rw [upd_ne fun w => by subst w; rw [(hb' _ (List.mem_cons_of_mem _ m2)).1] at g; cases g]; exact E1.env.st.gh _ _ g
    · obtain ⟨_, q⟩ := E1.env.st.row d ec
      exact q.at (Same.refl _) (upd_ne fun w => by subst w; exact (hb' _ (List.mem_cons_of_mem _ m2)).2 ec)
    · rw [appV_fps] at z
      exact ⟨.inl z, hb' b z⟩
end

/-! ### methods that change self, and give None -/
abbrev MF := List (Str × Fv) → List PV → (List (Str × Fv) → Prop) → Prop
def liftM (K : Fg) (C : Addr) (M : MF) : Sp := fun vs H Q _ => ∃ (r : Option Addr) (G : Hp) (a : Addr) (fs : List (Str × Fv)) (us : List V) (as : List PV) (P : List (Str × Fv) → Prop), vs = .ref a :: us ∧ Start K r G H ∧ ObR K G H C a fs ∧ (∀ b ∈ a :: fps fs, G b = none ∧ r ≠ some b) ∧ Args K r G us as ∧ M fs as P ∧
  ∀ fs' G' H', P fs' → Same G G' → (∀ b o, r ≠ some b → b ∉ a :: fps fs → H b = some o → H' b = some o) → Same G' H' → (∀ b o, H b = some o → b ∉ a :: fps fs → G b = none → G' b = none) → (∀ c, r = some c → RowOk K G' H' c) → ObR K G' H' C a fs' →
    (∀ b ∈ a :: fps fs', (b ∈ a :: fps fs ∨ H b = none) ∧ G' b = none ∧ r ≠ some b) → Q .non H'
open Classical in
theorem env_startM {K : Fg} {r : Option Addr} {G H : Hp} {N : List Str} {us : List V} {as : List PV} {C a : Addr} {fs : List (Str × Fv)} (S : Start K r G H) (O : ObR K G H C a fs) (hb : ∀ b ∈ a :: fps fs, G b = none ∧ r ≠ some b) (A : Args K r G us as) :
    EnvS K r G (cutG H (a :: fps fs)) r G H (L2.start N (.ref a :: us)) (startP N (.obj C a fs :: as)) := by
  have hl : us.length = as.length := Paired.length A
  have own0 : ∀ {i : Nat} {x : Dt}, (startP N (.obj C a fs :: as))[i]? ≠ some (.own x) := fun {i x} e => by
    unfold startP at e
    cases i with
    | zero => simp at e
    | succ i =>
      rw [List.cons_append, List.getElem?_cons_succ] at e
      by_cases hi : i < as.length
      · rw [List.getElem?_append_left hi] at e
        obtain ⟨v, h1, h2⟩ := A.get e
        exact h2.elim
      · rw [List.getElem?_append_right (by omega), List.getElem?_replicate] at e
        split at e <;> cases e
  have obj0 : ∀ {i : Nat} {D d : Addr} {gs : List (Str × Fv)}, (startP N (.obj C a fs :: as))[i]? = some (.obj D d gs) → i = 0 ∧ D = C ∧ d = a ∧ gs = fs := fun {i D d gs} e => by
    unfold startP at e
    cases i with
    | zero => simp at e; exact ⟨rfl, e.1.symm, e.2.1.symm, e.2.2.symm⟩
    | succ i =>
      rw [List.cons_append, List.getElem?_cons_succ] at e
      by_cases hi : i < as.length
      · rw [List.getElem?_append_left hi] at e
        obtain ⟨v, h1, h2⟩ := A.get e
        exact h2.elim
      · rw [List.getElem?_append_right (by omega), List.getElem?_replicate] at e
        split at e <;> cases e
  have gr : Grow K r G (cutG H (a :: fps fs)) G H := ⟨Same.refl _, fun b o _ e => by
    by_cases z : b ∈ a :: fps fs
    · rw [cut_in z] at e; cases e
    · rw [cut_out z] at e; exact e, S.gh, fun _ _ _ n => n, fun c e => (S.row c e).2⟩
  refine ⟨⟨S, by simp [L2.start, startP, hl], fun i p e => ?_, fun i j c x y e => absurd e own0, fun i j D d gs e => ⟨fun x ex => absurd ex own0, fun D2 d2 gs2 ej nij => ?_⟩⟩, gr, .inl rfl, fun c e => ?_, fun i c x e => absurd e own0, fun i D d gs e b z => ?_⟩
  · unfold startP at e
    unfold L2.start
    cases i with
    | zero =>
      simp at e
      subst e
      exact ⟨some (.ref a), by simp, rfl, O, hb⟩
    | succ i =>
      rw [List.cons_append, List.getElem?_cons_succ] at e
      rw [List.map_cons, List.cons_append, List.getElem?_cons_succ]
      by_cases hi : i < as.length
      · rw [List.getElem?_append_left hi] at e
        obtain ⟨v, h1, h2⟩ := A.get e
        refine ⟨some v, by rw [List.getElem?_append_left (by simpa [hl] using hi), List.getElem?_map, h1]; rfl, ?_⟩
        cases p with
        | un => trivial
        | d x => exact ⟨v, rfl, h2⟩
        | own x => exact h2.elim
        | row => obtain ⟨a, rfl, h2⟩ := h2; exact ⟨a, rfl, h2⟩
        | scr ns => obtain ⟨a, rfl, h2⟩ := h2; exact ⟨a, rfl, h2⟩
        | rng lo hi => exact h2.elim
        | ins C fs => obtain ⟨a, dx, vs, rfl, h2⟩ := h2; exact ⟨a, dx, vs, rfl, h2⟩
        | obj C a fs => exact h2.elim
        | fz p => exact ⟨v, rfl, h2⟩
      · rw [List.getElem?_append_right (by omega), List.getElem?_replicate] at e
        split at e
        · cases e
          refine ⟨none, ?_, trivial⟩
          rw [List.getElem?_append_right (by simp; omega), List.getElem?_replicate, if_pos (by simp at *; omega)]
        · cases e
  · obtain ⟨rfl, _⟩ := obj0 e
    obtain ⟨rfl, _⟩ := obj0 ej
    exact absurd rfl nij
  · obtain ⟨_, _, _, _, _, _, h, _⟩ := S.row c e
    exact ⟨_, (cut_out fun z => (hb c z).2 e).trans h⟩
  · obtain ⟨_, rfl, rfl, rfl⟩ := obj0 e
    exact cut_in z
section
variable {P : Program} {w : World} {K : Fg} {mg : Str → Option Value} {base : Heap}
theorem fd_okM {x qual : Str} {st : Stmt} {f : Addr} {fd : FuncData} {N ps : List Str} {k : Nat} {C : Addr} (M : MF) (Fu : Fun K x qual st f fd) (S : FnScope N ps (defScope st)) (len : ∀ fs as P, M fs as P → as.length + 1 = ps.length)
    (body : ∀ (cdv : Value) (A : Around) (outer : List Env) (s : Shared) (H : Hp) (E : XK), Room k (A.deeper (envOfC qual (defScope st) s.heap.objs.size f cdv)) →
      ∃ t, DSs (cxOf CX0 P w K mg base N qual (defScope st) f cdv A outer s H E).nox (defBody st) t ∧ ∀ a fs as (Q : List (Str × Fv) → Prop), M fs as Q → t { nx := fun ρ => ∃ fs', ρ[0]? = some (.obj C a fs') ∧ Q fs', rt := fun _ => False } (startP N (.obj C a fs :: as))) : FnOk P w K mg base CX0 (k + 1) f fd ps (liftM K C M) := by
  refine Fu.ok S (fun vs H Q E ⟨r, G, a, fs, us, as, P, e, _, _, _, A, p, _⟩ => by subst e; exact (by rw [List.length_cons, Paired.length A]; exact len fs as P p)) fun cdv A outer s H vs Q E hr ⟨r, G, a, fs, us, as, P, e, S1, O, hb, R, p, q⟩ => ?_
  subst e
  obtain ⟨t, ht, hp⟩ := body cdv A outer s H E hr
  refine ⟨liftS K t, ht, r, G, cutG H (a :: fps fs), r, G, _, _, env_startM S1 O hb R, hp a fs as P p, ⟨fun r' σ' ρ' G' H' ⟨fs', e', p'⟩ E' => ?_, fun _ _ _ _ _ z => z.elim, fun _ _ _ _ _ z => z.elim, fun v d G' H' p' => p'.elim⟩⟩
  obtain ⟨g1, g2, g3⟩ := E'.env.obAt e'
  have yo := E'.yo 0 C a fs' e'
  refine q fs' G' H' p' E'.gr.g (fun b o n z h => E'.gr.h b o n ((cut_out z).trans h)) E'.gr.gh (fun b o h z n => E'.gr.y b o ((cut_out z).trans h) n) E'.gr.row g2 fun b z => ⟨?_, (g3 b z).1, fun e => ?_⟩
  · have := yo b z
    by_cases y : b ∈ a :: fps fs
    · exact .inl y
    · rw [cut_out y] at this; exact .inr this
  · obtain ⟨o, ho⟩ := E'.rh b e
    rw [yo b z] at ho; cases ho
end
section
variable {X : Cx} {pos p0 apos p : Pos} {C : Addr} {m : Str} {te : PT0} {e : Expr} {es : List Expr}
/-- o.m(..) as a statement, o one's own -/
def sMeth (i : Nat) (C : Addr) (m : Str) (M : MF) (ta : PTAs) : PTS := fun P ρ => ∃ a fs, ρ[i]? = some (.obj C a fs) ∧ (fs.map (·.1)).all (fun x => m != x) = true ∧ ta ρ fun as => M fs as fun fs' => P.nx (ρ.set i (.obj C a fs'))
theorem meth_end {K : Fg} {r0 r : Option Addr} {G0 H0 G H : Hp} {σ : L2.St} {ρ : List PV} {a : Addr} {fs : List (Str × Fv)} {i : Nat} {M : MF} {as : List PV} {us : List V} {P : PEnds} {Dn : Ends} {E0 : XK} (E : EnvS K r0 G0 H0 r G H σ ρ) (e : ρ[i]? = some (.obj C a fs)) (A : Args K r G us as)
    (p : M fs as fun fs' => P.nx (ρ.set i (.obj C a fs'))) (q : Post K r0 G0 H0 P Dn) : liftM K C M (.ref a :: us) H (fun _ H' => Dn.nx σ H') E0 := by
  obtain ⟨h1, O, hb⟩ := E.env.obAt e
  exact ⟨r, G, a, fs, us, as, _, rfl, E.env.st, O, hb, A, p, fun fs' G' H' p' g hk gh y row O' hn => q.nx _ _ _ _ _ p' (E.putG e g hk gh y row O' hn)⟩
theorem ds_meth (i : Nat) {x : Str} {k : Nat} {f : Addr} {fd : FuncData} {ps : List Str} {M : MF} {ta : PTAs} {pl : Sem Bool} (T : Cls X.K C) (mf : Meth X.K C m f) (Fk : FnOk X.prog X.w X.K X.mg X.base CX0 k f fd ps (liftM X.K C M)) (hr : Room k X.A) (hbd : Binds X.K fd ps []) (ha : DAs X (e :: es) ta)
    (hN : X.N[i]? = some x := by rfl) (hv : Vis X.env.scope x := by first | exact Or.inl rfl | exact Or.inr (Or.inl rfl) | exact Or.inr (Or.inr rfl)) (hd : (x == ("__debug__" : Str)) = false := by decide) (hcd : (x == ("__classdict__" : Str)) = false := by decide)
    (he : starEach (e :: es) X.env = (false, eval e X.env) :: starEach es X.env := by rfl) (hpl : (backTo p (starEach es X.env)).any (·.1) = false := by rfl)
    (hev : eval (.Call (.Attribute (.Name x p0) m apos) (e :: es) [] p) X.env = (do let ov ← eval (.Name x p0) X.env; standAt apos.atName; let __x ← holding [ov] (getMethod ov m pl); match __x with | (f, first) => callWith p f first (backTo p (starEach (e :: es) X.env)) (backToKw p (keywordEach [] X.env))) := by rfl)
    (hs : swapsWith (.Call (.Attribute (.Name x p0) m apos) (e :: es) [] p) none pos.line X.env = pure false := by rfl) :
    DS X (.Expr (.Call (.Attribute (.Name x p0) m apos) (e :: es) [] p) pos) (sMeth i C m M ta) :=
  PS.weak (ps_expr (pe_meth (pe_var hN hv hd hcd) T mf Fk hr hbd .nil pass0 ha he hpl hev) hs) fun Dn σ H ⟨r0, G0, H0, r, G, ρ, P, E, ⟨a, fs, e, nm, pa⟩, q⟩ => by
    obtain ⟨h1, ⟨⟨dx, vs, h2, h3⟩, nd⟩, hb⟩ := E.env.obAt e
    refine ⟨.ref a, h1, a, dx, vs, rfl, h2, lookup_none (by rw [h3.names]; exact nm), r, G, ρ, _, E.env, pa, fun us as G1 H1 p1 W R => ?_⟩
    show liftM X.K C M (V.ref a :: (us ++ [])) H1 _ E0
    rw [List.append_nil]
    exact meth_end (E.grow W) e R p1 q
theorem ds_meth0 (i : Nat) {x : Str} {k : Nat} {f : Addr} {fd : FuncData} {ps : List Str} {M : MF} {pl : Sem Bool} (T : Cls X.K C) (mf : Meth X.K C m f) (Fk : FnOk X.prog X.w X.K X.mg X.base CX0 k f fd ps (liftM X.K C M)) (hr : Room k X.A) (hbd : Binds X.K fd ps [])
    (hN : X.N[i]? = some x := by rfl) (hv : Vis X.env.scope x := by first | exact Or.inl rfl | exact Or.inr (Or.inl rfl) | exact Or.inr (Or.inr rfl)) (hd : (x == ("__debug__" : Str)) = false := by decide) (hcd : (x == ("__classdict__" : Str)) = false := by decide)
    (hev : eval (.Call (.Attribute (.Name x p0) m apos) [] [] p) X.env = (do let ov ← eval (.Name x p0) X.env; standAt apos.atName; let __x ← holding [ov] (getMethod ov m pl); match __x with | (f, first) => callWith p f first (backTo p (starEach [] X.env)) (backToKw p (keywordEach [] X.env))) := by rfl)
    (hs : swapsWith (.Call (.Attribute (.Name x p0) m apos) [] [] p) none pos.line X.env = pure false := by rfl) :
    DS X (.Expr (.Call (.Attribute (.Name x p0) m apos) [] [] p) pos) (sMeth i C m M vNil) :=
  PS.weak (ps_expr (pe_meth0 (pe_var hN hv hd hcd) T mf Fk hr hbd .nil pass0 hev) hs) fun Dn σ H ⟨r0, G0, H0, r, G, ρ, P, E, ⟨a, fs, e, nm, pa⟩, q⟩ => by
    obtain ⟨h1, ⟨⟨dx, vs, h2, h3⟩, nd⟩, hb⟩ := E.env.obAt e
    exact ⟨.ref a, h1, a, dx, vs, rfl, h2, lookup_none (by rw [h3.names]; exact nm), (show liftM X.K C M (V.ref a :: ([] ++ [])) H _ E0 from meth_end E e .nil pa q)⟩
/-- o.m(..), m only reads o, which is one's own -/
def dMethO (i : Nat) (C : Addr) (m : Str) (F : PF) (ta : PTA) : PT0 := fun ρ P => ∃ a fs, ρ[i]? = some (.obj C a fs) ∧ (fs.map (·.1)).all (fun x => m != x) = true ∧ ta ρ fun xs => F (.ins C (frzF fs) :: xs.map .d) fun d => flatB d = true ∧ P d
theorem de_methO (i : Nat) {x : Str} {k : Nat} {f : Addr} {fd : FuncData} {ps : List Str} {F : PF} {ta : PTA} {pl : Sem Bool} (T : Cls X.K C) (mf : Meth X.K C m f) (Fk : FnOk X.prog X.w X.K X.mg X.base CX0 k f fd ps (liftF X.K F)) (hr : Room k X.A) (hbd : Binds X.K fd ps []) (ha : DA X (e :: es) ta)
    (hN : X.N[i]? = some x := by rfl) (hv : Vis X.env.scope x := by first | exact Or.inl rfl | exact Or.inr (Or.inl rfl) | exact Or.inr (Or.inr rfl)) (hd : (x == ("__debug__" : Str)) = false := by decide) (hcd : (x == ("__classdict__" : Str)) = false := by decide)
    (he : starEach (e :: es) X.env = (false, eval e X.env) :: starEach es X.env := by rfl) (hpl : (backTo p (starEach es X.env)).any (·.1) = false := by rfl)
    (hev : eval (.Call (.Attribute (.Name x p0) m apos) (e :: es) [] p) X.env = (do let ov ← eval (.Name x p0) X.env; standAt apos.atName; let __x ← holding [ov] (getMethod ov m pl); match __x with | (f, first) => callWith p f first (backTo p (starEach (e :: es) X.env)) (backToKw p (keywordEach [] X.env))) := by rfl) :
    DE X (.Call (.Attribute (.Name x p0) m apos) (e :: es) [] p) (dMethO i C m F ta) :=
  PE.weak (pe_meth (pe_var hN hv hd hcd) T mf Fk hr hbd .nil pass0 ha he hpl hev) fun σ H Q ⟨r, G, ρ, P, E, ⟨a, fs, e, nm, pa⟩, q⟩ => by
    obtain ⟨h1, ⟨⟨dx, vs, h2, h3⟩, nd⟩, hb⟩ := E.obAt e
    refine ⟨.ref a, h1, a, dx, vs, rfl, h2, lookup_none (by rw [h3.names]; exact nm), r, G, ρ, _, E, pa, fun us xs G1 H1 p1 W R => ?_⟩
    show liftF X.K F (V.ref a :: (us ++ [])) H1 Q E0
    rw [List.append_nil]
    obtain ⟨g1, O, hb'⟩ := (E.grow W).obAt e
    exact pure_call (W.start E.st) O hb' R p1 fun v d G' H' p' W' R' => q v d G' H' p' (W.trans W') R'
theorem de_methO0 (i : Nat) {x : Str} {k : Nat} {f : Addr} {fd : FuncData} {ps : List Str} {F : PF} {pl : Sem Bool} (T : Cls X.K C) (mf : Meth X.K C m f) (Fk : FnOk X.prog X.w X.K X.mg X.base CX0 k f fd ps (liftF X.K F)) (hr : Room k X.A) (hbd : Binds X.K fd ps [])
    (hN : X.N[i]? = some x := by rfl) (hv : Vis X.env.scope x := by first | exact Or.inl rfl | exact Or.inr (Or.inl rfl) | exact Or.inr (Or.inr rfl)) (hd : (x == ("__debug__" : Str)) = false := by decide) (hcd : (x == ("__classdict__" : Str)) = false := by decide)
    (hev : eval (.Call (.Attribute (.Name x p0) m apos) [] [] p) X.env = (do let ov ← eval (.Name x p0) X.env; standAt apos.atName; let __x ← holding [ov] (getMethod ov m pl); match __x with | (f, first) => callWith p f first (backTo p (starEach [] X.env)) (backToKw p (keywordEach [] X.env))) := by rfl) :
    DE X (.Call (.Attribute (.Name x p0) m apos) [] [] p) (dMethO i C m F dNil) :=
  PE.weak (pe_meth0 (pe_var hN hv hd hcd) T mf Fk hr hbd .nil pass0 hev) fun σ H Q ⟨r, G, ρ, P, E, ⟨a, fs, e, nm, pa⟩, q⟩ => by
    obtain ⟨h1, O, hb⟩ := E.obAt e
    obtain ⟨⟨dx, vs, h2, h3⟩, nd⟩ := id O
    exact ⟨.ref a, h1, a, dx, vs, rfl, h2, lookup_none (by rw [h3.names]; exact nm), (show liftF X.K F (V.ref a :: ([] ++ [])) H Q E0 from pure_call E.st O hb .nil pa fun v d G' H' p' W' R' => q v d G' H' p' W' R')⟩
/-- C(..): a new one -/
abbrev PTM := List PV → (List (Str × Fv) → Prop) → Prop
def liftN (K : Fg) (C : Addr) (t : PTM) : TE := fun σ H Q => ∃ (r : Option Addr) (G : Hp) (ρ : List PV) (P : List (Str × Fv) → Prop), EnvR K r G H σ ρ ∧ t ρ P ∧ ∀ a fs G' H', P fs → Grow K r G H G' H' → ObR K G' H' C a fs → (∀ b ∈ a :: fps fs, H b = none ∧ G' b = none ∧ r ≠ some b) → Q (.ref a) H'
def DN (X : Cx) (C : Addr) (e : Expr) (t : PTM) : Prop := PE X e (liftN X.K C t)
def nMake (M : MF) (ta : PTAs) : PTM := fun ρ P => ta ρ fun as => M [] as P
theorem dn_make {x : Str} {k : Nat} {f : Addr} {fd : FuncData} {ps : List Str} {M : MF} {ta : PTAs} (mk : Mk X.K C f) (Fk : FnOk X.prog X.w X.K X.mg X.base CX0 k f fd ps (liftM X.K C M)) (hr : Room (k + 1) X.A) (hm : X.mg x = some (.ref C)) (hbd : Binds X.K fd ps []) (ha : DAs X (e :: es) ta)
    (hg : Gl X x := by rfl) (hdb : (x == ("__debug__" : Str)) = false := by decide) (he : starEach (e :: es) X.env = (false, eval e X.env) :: starEach es X.env := by rfl) (hpl : (backTo pos (starEach es X.env)).any (·.1) = false := by rfl) :
    DN X C (.Call (.Name x p) (e :: es) [] pos) (nMake M ta) :=
  PE.weak (pe_make mk Fk hr hg hm hbd .nil pass0 ha hdb he hpl) fun σ H Q ⟨r, G, ρ, P, E, pa, q⟩ => ⟨r, G, ρ, _, E, pa, fun us as G1 H1 p1 W R a dx ha hdx nex => by
    have S1 := W.start E.st
    have up : ∀ b o, H1 b = some o → (upd (upd H1 dx (.own a)) a (.ins C dx [])) b = some o := fun b o h => by rw [upd_ne (ne_of_none h ha), upd_ne (ne_of_none h hdx)]; exact h
    have S2 : Start X.K r G1 (upd (upd H1 dx (.own a)) a (.ins C dx [])) := ⟨fun b o g => up b o (S1.gh _ _ g), fun c ec => by
      obtain ⟨h0, h⟩ := S1.row c ec
      obtain ⟨_, _, _, _, _, h1, _⟩ := id h
      exact ⟨h0, h.at (Same.refl _) ((up _ _ h1).trans h1.symm)⟩⟩
    have ga : G1 a = none := S1.gh.free ha
    show liftM X.K C M (V.ref a :: (us ++ [])) _ _ E0
    rw [List.append_nil]
    refine ⟨r, G1, a, [], us, as, P, rfl, S2, ⟨⟨dx, [], upd_same, .nil⟩, by simp [fps]⟩, fun b hb => ?_, R, p1, fun fs' G' H' p' g hk gh y row O' hn => ⟨rfl, ?_⟩⟩
    · have : b = a := by simpa [fps] using hb
      subst this
      exact ⟨ga, S1.rowNe ha⟩
    · have na : ∀ b o, H1 b = some o → b ∉ a :: fps [] := fun b o h z => by
        have : b = a := by simpa [fps] using z
        subst this
        rw [ha] at h; cases h
      refine q a fs' G' H' p' (W.trans ⟨g, fun b o n h => hk b o n (na b o h) (up b o h), gh, fun b o h n => y b o (up b o h) (na b o h) n, row⟩) O' fun b hb => ?_
      obtain ⟨z1, z2, z3⟩ := hn b hb
      refine ⟨?_, z2, z3⟩
      have h1 : H1 b = none := by
        rcases z1 with z | z
        · have : b = a := by simpa [fps] using z
          subst this
          exact ha
        · cases q : H1 b with
          | none => rfl
          | some u => rw [up b u q] at z; cases z
      cases q : H b with
      | none => rfl
      | some u =>
        by_cases hr : r = some b
        · subst hr
          obtain ⟨_, _, _, _, _, h2, _⟩ := W.row b rfl
          rw [h1] at h2; cases h2
        · rw [W.h b u hr q] at h1; cases h1⟩
/-- C(..).m(..), m only reads -/
def dMethN (m : Str) (C : Addr) (tn : PTM) (F : PF) (ta : PTA) : PT0 := fun ρ P => tn ρ fun fs => (fs.map (·.1)).all (fun x => m != x) = true ∧ ta ρ fun xs => F (.ins C (frzF fs) :: xs.map .d) fun d => flatB d = true ∧ P d
theorem de_methN {o : Expr} {tn : PTM} {k : Nat} {f : Addr} {fd : FuncData} {ps : List Str} {F : PF} {ta : PTA} {pl : Sem Bool} (T : Cls X.K C) (mf : Meth X.K C m f) (Fk : FnOk X.prog X.w X.K X.mg X.base CX0 k f fd ps (liftF X.K F)) (hr : Room k X.A) (hbd : Binds X.K fd ps []) (ho : DN X C o tn) (ha : DA X (e :: es) ta)
    (he : starEach (e :: es) X.env = (false, eval e X.env) :: starEach es X.env := by rfl) (hpl : (backTo p (starEach es X.env)).any (·.1) = false := by rfl)
    (hev : eval (.Call (.Attribute o m apos) (e :: es) [] p) X.env = (do let ov ← eval o X.env; standAt apos.atName; let __x ← holding [ov] (getMethod ov m pl); match __x with | (f, first) => callWith p f first (backTo p (starEach (e :: es) X.env)) (backToKw p (keywordEach [] X.env))) := by rfl) :
    DE X (.Call (.Attribute o m apos) (e :: es) [] p) (dMethN m C tn F ta) :=
  PE.weak (pe_meth ho T mf Fk hr hbd .nil pass0 ha he hpl hev) fun σ H Q ⟨r, G, ρ, P, E, pn, q⟩ => ⟨r, G, ρ, _, E, pn, fun a fs G1 H1 ⟨nm, p1⟩ W O hn => by
    obtain ⟨⟨dx, vs, h2, h3⟩, nd⟩ := id O
    refine ⟨a, dx, vs, rfl, h2, lookup_none (by rw [h3.names]; exact nm), r, G1, ρ, _, E.grow W, p1, fun us xs G2 H2 p2 W2 R => ?_⟩
    show liftF X.K F (V.ref a :: (us ++ [])) H2 Q E0
    rw [List.append_nil]
    have S1 := W.start E.st
    have O2 : ObR X.K G2 H2 C a fs := O.at W2.g fun b hb => by
      obtain ⟨u, hu⟩ := O.there b hb
      exact (W2.h b u (hn b hb).2.2 hu).trans hu.symm
    refine pure_call (W2.start S1) O2 (fun b hb => ?_) R p2 fun v d G' H' p' W' R' => q v d G' H' p' ((W.trans W2).trans W') R'
    obtain ⟨u, hu⟩ := O.there b hb
    exact ⟨W2.y b u hu (hn b hb).2.1, (hn b hb).2.2⟩⟩
/-- x, y = C(..), e: names that are cells -/
def sMakeP (i j : Nat) (C : Addr) (tn : PTM) (te : PT0) : PTS := fun P ρ => i < ρ.length ∧ i ≠ j ∧ tn ρ fun fs => te ρ fun y => ∀ a : Addr, P.nx ((ρ.set i (.obj C a fs)).set j (.d y))
theorem ds_makeP (i j : Nat) {x y : Str} {o : Expr} {tn : PTM} {px py pt pt2 : Pos} {kt k2} (hc : X.calm = true) (hN : X.N.Nodup) (ho : DN X C o tn) (he : DE X e te) (hi : X.N[i]? = some x := by rfl) (hj : X.N[j]? = some y := by rfl)
    (hx : Loc X.env.scope x := by first | exact Or.inl rfl | exact Or.inr rfl) (hy : Loc X.env.scope y := by first | exact Or.inl rfl | exact Or.inr rfl)
    (fx : X.fn x = true ∨ X.env.scope.names.lookup x = some .local := by first | exact .inl rfl | exact .inr rfl) (fy : X.fn y = true ∨ X.env.scope.names.lookup y = some .local := by first | exact .inl rfl | exact .inr rfl)
    (hw : swappedStores [.Tuple [.Name x px, .Name y py] kt pt] (.Tuple [o, e] k2 pt2) X.env = pure none := by rfl)
    (hs : swapsWithSole [.Tuple [.Name x px, .Name y py] kt pt] (.Tuple [o, e] k2 pt2) pos.line X.env = pure false := by rfl)
    (h0 : (assignEach [.Tuple [.Name x px, .Name y py] kt pt] X.env).map (·.2) = [assign (.Tuple [.Name x px, .Name y py] kt pt) X.env] := by rfl)
    (h1 : starEach [o, e] X.env = (false, eval o X.env) :: starEach [e] X.env := by rfl) (h2 : starEach [e] X.env = (false, eval e X.env) :: starEach [] X.env := by rfl)
    (a1 : (assignEach [.Name x px, .Name y py] X.env).map (·.2) = assign (.Name x px) X.env :: (assignEach [.Name y py] X.env).map (·.2) := by rfl) (a2 : (assignEach [.Name y py] X.env).map (·.2) = assign (.Name y py) X.env :: (assignEach [] X.env).map (·.2) := by rfl)
    (a3 : (assignEach [.Name x px, .Name y py] X.env).length = 2 := by rfl) (a4 : (assignEach [.Name x px, .Name y py] X.env).findIdx? (·.1) = none := by rfl) :
    DS X (.Assign [.Tuple [.Name x px, .Name y py] kt pt] (.Tuple [o, e] k2 pt2) pos) (sMakeP i j C tn te) :=
  PS.weak (ps_asg (pe_tup (pa_cons ho (pa_cons he pa_nil h2) h1)) (pg_tup hc (pgs_cons (pg_name hN hi hx fx) (pgs_cons (pg_name hN hj hy fy) pgs_nil a2) a1) a3 a4) hs hw h0) fun Dn σ H ⟨r0, G0, H0, r, G, ρ, P, E, ⟨li, nij, p⟩, q⟩ =>
    ⟨r, G, ρ, _, E.env, p, fun a fs G1 H1 p1 W O hn => ⟨r, G1, ρ, _, E.env.grow W, p1, fun v d G2 H2 p2 W2 R => ⟨by show 2 ≤ sizeLine; decide, fun c hc => ⟨c, _, rfl, .inl (.inl upd_same), rfl, _, _, rfl, _, _, rfl, rfl, by
      have S2 : Start X.K r G2 H2 := W2.start (W.start E.env.st)
      have W3 := S2.lay (o := .tup [.ref a, v]) hc
      have O3 : ObR X.K (upd G2 c (.tup [.ref a, v])) (upd H2 c (.tup [.ref a, v])) C a fs := O.at (W2.g.trans W3.g) fun b hb => by
        obtain ⟨u, hu⟩ := O.there b hb
        have h := W2.h b u (hn b hb).2.2 hu
        exact (upd_ne (ne_of_none h hc)).trans (h.trans hu.symm)
      have E1 := E.takeO (i := i) ((W.trans W2).trans W3) O3 (fun b hb => by
        obtain ⟨u, hu⟩ := O.there b hb
        have h := W2.h b u (hn b hb).2.2 hu
        exact ⟨(hn b hb).1, by rw [upd_ne (ne_of_none h hc)]; exact W2.y b u hu (hn b hb).2.1, (hn b hb).2.2⟩) li
      exact q.nx _ _ _ _ _ (p2 a) (E1.setP (i := j) (p := .d d) ⟨_, rfl, R.mono W3.g⟩ (fun _ z => nomatch z))⟩⟩⟩⟩
end
end PD
namespace PD
open PySem PySem.Spec PyProof.Rows L2
section
variable {X : Cx}
def fNotInI : F2 := fun x y P => ∃ (n : Int) (ns : List Int), x = .int n ∧ (y = .tuple (ns.map .int) ∨ y = .list (ns.map .int)) ∧ P (.bool (!decide (n ∈ ns)))
theorem do_notInI : DO X (compareOp .NotIn) fNotInI := by
  intro pins s σ H x y v u Q I rx ry h
  obtain ⟨r, G, d, e, P, S, hd, he, ⟨n, ns, rfl, hy, p⟩, q⟩ := h
  cases hd
  rcases hy with rfl | rfl
  · cases he with
    | tup e1 r1 =>
      rw [ints_eq (dInts_map ns)] at r1
      have e2 := r1.ints
      subst e2
      exact op_notIn_seq pins s σ H _ _ v u Q I rx ry ⟨_, _, rfl, .inr (same_seqP S.gh e1), rfl, flat_ints ns, by
        rw [if_pos (by decide), inV_ints]
        exact q _ _ G H p S.grow (.bl _)⟩
  · cases he with
    | lst e1 r1 =>
      rw [ints_eq (dInts_map ns)] at r1
      have e2 := r1.ints
      subst e2
      exact op_notIn_seq pins s σ H _ _ v u Q I rx ry ⟨_, _, rfl, .inl (SqL.of (S.gh _ _ e1)), rfl, flat_ints ns, by
        rw [if_pos (by decide), inV_ints]
        exact q _ _ G H p S.grow (.bl _)⟩
/-- a sign in a text -/
def fInX : F2 := fun x y P => ∃ (c : Nat) (z : Str), x = .str ⟨#[c]⟩ ∧ y = .str z ∧ P (.bool (decide (c ∈ z.cps.toList)))
def fNotInX : F2 := fun x y P => ∃ (c : Nat) (z : Str), x = .str ⟨#[c]⟩ ∧ y = .str z ∧ P (.bool (!decide (c ∈ z.cps.toList)))
theorem do_inX : DO X (compareOp .In) fInX := by
  intro pins s σ H x y v u Q I rx ry h
  obtain ⟨r, G, d, e, P, S, hd, he, ⟨c, z, rfl, rfl, p⟩, q⟩ := h
  cases hd
  cases he
  exact op_in_sign pins s σ H _ _ v u Q I rx ry ⟨c, z, rfl, rfl, q _ _ G H p S.grow (.bl _)⟩
theorem do_notInX : DO X (compareOp .NotIn) fNotInX := by
  intro pins s σ H x y v u Q I rx ry h
  obtain ⟨r, G, d, e, P, S, hd, he, ⟨c, z, rfl, rfl, p⟩, q⟩ := h
  cases hd
  cases he
  exact op_notIn_sign pins s σ H _ _ v u Q I rx ry ⟨c, z, rfl, rfl, q _ _ G H p S.grow (.bl _)⟩
end
/-- facts of a method -/
structure Dm (K : Fg) (C : Addr) (m qual : Str) (st : Stmt) (ps : List Str) (f : Addr) (fd : FuncData) : Prop where
  fn : Fun K m qual st f fd
  me : Meth K C m f
  bd : Binds K fd ps []
structure Dn (K : Fg) (C : Addr) (m qual : Str) (st : Stmt) (ps : List Str) (f : Addr) (fd : FuncData) : Prop where
  fn : Fun K m qual st f fd
  mks : Mk K C f
  bd : Binds K fd ps []
end PD
/-! PDx: dicts whose keys are tuples: their pairs walked. -/
namespace PD
open PySem PySem.Spec PyProof.Rows L2

/-- what a known dict with tuple keys holds, entry by entry -/
theorem frz_pairs {X : Cx} {pins : List (Addr × Obj)} {σ : L2.St} {H : Hp} {s : Shared} {d : Addr} {o : Obj} {kvs : List (List Key × V)} (I : Inv X pins σ H s) (hf : H d = some (.frz o (.dT kvs))) :
    (d == sysModules) = false ∧ s.heap.get? d = some o ∧ o.ExactDict ∧ ∃ (es : Array DictEntry) (ep : Nat), o.data = .dict es ep ∧ es.size = kvs.length ∧
      ∀ (i : Nat) (k : List Key) (v : V), kvs[i]? = some (k, v) → ∃ (en : DictEntry) (q : Addr), es[i]? = some en ∧ en.key = .ref q ∧ H q = some (.tup (k.map kV)) ∧ RelV v en.val := by
  obtain ⟨g0, z, gs, xs, pr, o', es, ep, g1, g2, g3, g4, _⟩ := I.hok d _ hf
  rw [g0] at g1
  cases g1
  refine ⟨gs, g0, g2, es, ep, g3, ?_, fun i k v e => ?_⟩
  · have a1 : es.size = xs.length := size_of_entries g4
    have a2 : kvs.length = xs.length := Paired.length pr
    omega
  · obtain ⟨b, hb, b1, b2, b3⟩ := paired_get pr e
    have y := entry_at g4 i
    rw [hb] at y
    exact ⟨_, b.2.1, y, rfl, b2, b3⟩
def Itq (d : Addr) (o : Obj) (kvs : List (List Key × V)) : It :=
  ⟨fun i H => H d = some (.frz o (.dT kvs)) ∧ i < kvs.length, fun i H x H' => ∃ (T q : Addr) (k : List Key) (v : V), kvs[i]? = some (k, v) ∧ x = .ref T ∧ H T = none ∧ H q = some (.tup (k.map kV)) ∧ H' = upd H T (.tup [.ref q, v]), fun i H => H d = some (.frz o (.dT kvs)) ∧ kvs.length ≤ i⟩
theorem raw_of {h : Heap} {d : Addr} {o : Obj} {es : Array DictEntry} {ep : Nat} (h1 : h.get? d = some o) (h2 : o.ExactDict) (h3 : o.data = .dict es ep) : DT.Raw h d es ep := ⟨o, h1, h2, h3⟩
theorem turn_pairs {P : Program} {w : World} {K : Fg} {d : Addr} {o : Obj} {es : Array DictEntry} {ep : Nat} {kvs : List (List Key × V)} {elts : List Expr} {kk : Nat} {tpos : Pos} (it : Addr) (hod : o.data = .dict es ep) :
    Turn P w K (.Tuple elts kk tpos) (Itq d o kvs) [it] it (fun i h => ∃ ok ov, IsItemIter h it d i kvs.length ep ok ov) where
  mem := List.mem_singleton_self _
  obj := fun i h ⟨ok, ov, e⟩ b hb => by
    rw [List.mem_singleton.mp hb]
    exact ⟨_, e, fun v z => nomatch z⟩
  keep := fun i h h' ⟨ok, ov, e⟩ k => ⟨ok, ov, k it (List.mem_singleton_self _) _ e⟩
  item := by
    intro X hP hw hK hc i pins s σ H E I hf ⟨ok, ov, st⟩ ⟨hd, hi⟩
    subst hP hw hK
    obtain ⟨gs, g0, gx, es', ep', g3, gz, gp⟩ := frz_pairs I hd
    obtain ⟨rfl, rfl⟩ := dict_ep hod g3
    have hkv : kvs[i]? = some (kvs[i].1, kvs[i].2) := by rw [List.getElem?_eq_getElem hi]
    obtain ⟨en, q, en1, en2, en3, en4⟩ := gp i _ _ hkv
    have hi2 : i < es'.size := by rw [gz]; exact hi
    rw [← gz] at st
    have ee : es'[i] = en := by
      rw [Array.getElem?_eq_getElem hi2] at en1
      exact Option.some.inj en1
    have younger : it < s.heap.objs.size := Heap.lt_size st
    refine DT.nextI st (raw_of g0 gx g3) hi2 fun h1 m1 m2 m3 m4 => ?_
    rw [ee, en2] at m1 m2
    refine ⟨_, rfl, wpAny_letOwnedTupleGo_items (s := { s with heap := h1 }) m1 fun h2 m5 m6 => ?_⟩
    have there : h2.get? s.heap.objs.size = some { cls := .type "tuple", data := .seq #[.ref q, en.val] } := (m6.2 _ (Nat.ne_of_gt younger)).trans m2
    have fine : ObjOk X.prog X.w (upd H s.heap.objs.size (.tup [.ref q, kvs[i].2])) h2 s.heap.objs.size (.tup [.ref q, kvs[i].2]) :=
      ⟨by show 2 ≤ sizeLine; decide, [.ref q, en.val], .cons rfl (.cons en4 .nil), ⟨_, there, rfl, _, rfl⟩⟩
    have I2 : Inv X pins σ (upd H s.heap.objs.size (.tup [.ref q, kvs[i].2])) { s with heap := h2 } :=
      I.turnedNew (t' := s.toks) (ch := [it]) (fun b ob hb e => (m6.2 b fun z => hb (List.mem_singleton.mpr z)).trans (m4 b ob (fun z => hb (List.mem_singleton.mpr z)) e)) hf (Nat.le_refl _) fine
    refine ⟨.ref s.heap.objs.size, _, I2, rfl, ⟨_, q, _, _, hkv, rfl, I.hok.fresh (Nat.le_refl _), en3, rfl⟩, ⟨.ref q, en.val, by rw [← gz]; exact m5⟩, fun b hb => ?_⟩
    rw [List.mem_singleton.mp hb, upd_ne (Nat.ne_of_lt younger)]
    exact (hf it (List.mem_singleton_self _)).1
  done := by
    intro X hP hw hK hc i pins s σ H E I hf ⟨ok, ov, st⟩ ⟨hd, hi⟩
    subst hP hw hK
    obtain ⟨f0, f1, f2, f3, f4, f5⟩ := hf it (List.mem_singleton_self _)
    obtain ⟨gs, g0, gx, es', ep', g3, gz, gp⟩ := frz_pairs I hd
    obtain ⟨rfl, rfl⟩ := dict_ep hod g3
    rw [← gz] at st
    exact DT.endI (I.ok.hd hc) st (raw_of g0 gx g3) (by rw [gz]; exact hi) fun h1 m1 => ⟨rfl, I.turned (t' := s.toks) (fun b ob hb e => m1 b ob hb e) f0 f1 f3 f4 f5⟩
  self := fun A i s Q E ⟨ok, ov, st⟩ h => PySem.W.kcp_self st h
def iPairs (td : TE) : TI := fun σ H R => td σ H fun x H1 => ∃ d o kvs, x = .ref d ∧ H1 d = some (.frz o (.dT kvs)) ∧ R (Itq d o kvs) H1
theorem pi_pairs {X : Cx} {e : Expr} {td : TE} {apos cpos : Pos} {elts : List Expr} {kk : Nat} {tpos : Pos} (he : PE X e td) (hbase : attributeBase e "items" X.env (eval e X.env) = eval e X.env := by rfl) (hline : (apos.endLine == cpos.line) = true := by rfl) :
    PI X (.Tuple elts kk tpos) (.Call (.Attribute e "items" apos) [] [] cpos) (iPairs td) := by
  refine ⟨fun pins s σ H R I h => ?_⟩
  refine wpAny_Call_method (T := "dict") (id := "dict.items") hbase rfl hline F.plainAttrs_dict F.slot_dict_items F.type_dict_items (thn (he.run pins s σ H _ I h) fun u s1 ⟨x, H1, I1, rx, d, o, kvs, ex, hd, q⟩ => ?_)
  subst ex
  obtain rfl : u = Value.ref d := rx
  obtain ⟨gs, g0, gx, es, ep, g3, gz, gp⟩ := frz_pairs I1 hd
  have raw := raw_of g0 gx g3
  refine ⟨raw.typeIs, ?_, ?_⟩
  · intro a e
    cases e
    exact ⟨o, g0, gx.2.1⟩
  · have J : Inv X pins σ H1 { s1 with heap := s1.heap.push { cls := .type "dict_items", data := .fields #[.ref d] } } := I1.kept (t' := s1.toks) fun b ob z => Heap.get?_push_of_some _ z
    have last : wpAny (model X.prog X.w) X.A (pyIter (.ref s1.heap.objs.size)) (PIE X pins σ (.Tuple elts kk tpos) R) X.xe { s1 with heap := s1.heap.push { cls := .type "dict_items", data := .fields #[.ref d] } } := by
      refine DT.iterI (d := d) ⟨_, Heap.get?_push_size _ rfl, rfl, rfl⟩ (raw.push _) (pi_one (tk := s1.toks) J _ (turn_pairs _ g3) ⟨.none, .none, ?_⟩ q)
      rw [← gz]
      exact Heap.get?_push_size _ rfl
    show wpAny _ _ (callWith cpos (.builtin "dict.items") [.ref d] [] []) _ X.xe s1
    exact method_meetsIn F.slot_dict_items F.entry_dict_items rfl (PySem.evalArgs_none ⟨rfl, raw.typeIs, F.args_dict_items_1 _, _, DT.meetsItems (prog := X.prog) (w := X.w) gs, raw, last⟩)
end PD
/-! PDy: dicts by pairs of ints, as data. -/
namespace PD
open PySem PySem.Spec PyProof.Rows L2

abbrev Pk := (Int × Int) × Int
def pk (k : Int × Int) : List Key := [.inl k.1, .inl k.2]
def pairI (k : Int × Int) : Dt := .tuple [.int k.1, .int k.2]
def ktL (l : List Pk) : List (List Key × Dt) := l.map fun e => (pk e.1, .int e.2)
def kt (l : List Pk) : Dt := .dict (markE :: (ktL l).map entD)
def vtL (l : List Pk) : List (List Key × V) := l.map fun e => (pk e.1, V.int e.2)
def getP (l : List Pk) (k : Int × Int) : Option Int := (l.find? fun e => decide (e.1 = k)).map (·.2)
def putP (l : List Pk) (k : Int × Int) (c : Int) : List Pk := if (l.any fun e => decide (e.1 = k)) = true then l.map (fun e => if e.1 = k then (e.1, c) else e) else l ++ [(k, c)]
theorem pk_inj {a b : Int × Int} (h : pk a = pk b) : a = b := by
  unfold pk at h
  have h1 := (List.cons.inj h).1
  have h2 := (List.cons.inj (List.cons.inj h).2).1
  exact Prod.ext (Sum.inl.inj h1) (Sum.inl.inj h2)
theorem pk_eq {a b : Int × Int} : (pk a = pk b) = (a = b) := propext ⟨pk_inj, fun h => by rw [h]⟩
theorem pk_kV (k : Int × Int) : (pk k).map kV = [.int k.1, .int k.2] := rfl
theorem keysD_inj : ∀ {a b : List Key}, a.map keyD = b.map keyD → a = b
  | [], [], _ => rfl
  | [], _ :: _, h => by simp at h
  | _ :: _, [], h => by simp at h
  | x :: a, y :: b, h => by
    rw [List.map_cons, List.map_cons] at h
    rw [keyD_inj (List.cons.inj h).1, keysD_inj (List.cons.inj h).2]
theorem entD_inj : ∀ {l m : List (List Key × Dt)}, l.map entD = m.map entD → l = m
  | [], [], _ => rfl
  | [], _ :: _, h => by simp at h
  | _ :: _, [], h => by simp at h
  | x :: a, y :: b, h => by
    rw [List.map_cons, List.map_cons] at h
    have h1 := (List.cons.inj h).1
    have h2 := Prod.mk.inj h1
    have h3 : x = y := Prod.ext (keysD_inj (PyData.tuple.inj h2.1)) h2.2
    rw [h3, entD_inj (List.cons.inj h).2]
theorem repT_kt {K : Fg} {G : Hp} : ∀ {kvs : List (List Key × V)} {l : List Pk}, RepT K G kvs (ktL l) → kvs = vtL l
  | _, [], h => by cases h; rfl
  | _, e :: l, h => by
    unfold ktL at h
    rw [List.map_cons] at h
    cases h with
    | cons a b =>
      cases a
      rw [repT_kt (l := l) b]
      rfl
theorem kt_rep {K : Fg} {G : Hp} : ∀ l : List Pk, RepT K G (vtL l) (ktL l)
  | [] => .nil
  | e :: l => .cons (.int _) (kt_rep l)
theorem mark_not {K : Fg} {G : Hp} {kvs : List (Key × V)} {x : List (Dt × Dt)} (h : RepK K G kvs (markE :: x)) : False := by
  generalize e : markE :: x = y at h
  cases h with
  | nil => cases e
  | cons a b =>
    have h1 := (Prod.mk.inj (List.cons.inj e).1).1
    rename_i k _ _ _ _
    cases k <;> cases h1
theorem rep_kt {K : Fg} {G : Hp} {v : V} {l : List Pk} (h : Rep K G v (kt l)) : ∃ a o, v = .ref a ∧ G a = some (.frz o (.dT (vtL l))) := by
  unfold kt at h
  generalize e : markE :: (ktL l).map entD = y at h
  cases h with
  | dic h1 h2 => subst e; exact (mark_not h2).elim
  | dicT h1 h2 =>
    have h3 := entD_inj (List.cons.inj e).2
    subst h3
    rw [repT_kt h2] at h1
    exact ⟨_, _, rfl, h1⟩
theorem own_kt {K : Fg} {r : Option Addr} {G H : Hp} {σ : L2.St} {ρ : List PV} (E : EnvR K r G H σ ρ) {i : Nat} {l : List Pk} (e : ρ[i]? = some (.own (kt l))) : ∃ a, σ[i]? = some (some (.ref a)) ∧ H a = some (.dT (vtL l)) := by
  obtain ⟨a, h1, _, _, h2⟩ := E.getO e
  unfold kt at h2
  generalize e2 : markE :: (ktL l).map entD = y at h2
  cases h2 with
  | dic h3 h4 => subst e2; exact (mark_not h4).elim
  | dicT h3 h4 =>
    have h5 := entD_inj (List.cons.inj e2).2
    subst h5
    rw [repT_kt h4] at h3
    exact ⟨a, h1, h3⟩
theorem valV_kt (k : Int × Int) : ∀ l : List Pk, valV (vtL l) (pk k) = (getP l k).map V.int
  | [] => rfl
  | e :: l => by
    have ih := valV_kt k l
    unfold valV getP at ih ⊢
    show ((((pk e.1, V.int e.2) :: vtL l).find? fun kv => decide (kv.1 = pk k)).map (·.2)) = (((e :: l).find? fun e => decide (e.1 = k)).map (·.2)).map V.int
    rw [List.find?_cons, List.find?_cons]
    by_cases h : e.1 = k
    · rw [decide_eq_true h, decide_eq_true (show pk e.1 = pk k by rw [h])]
      rfl
    · rw [decide_eq_false h, decide_eq_false (show ¬ pk e.1 = pk k from fun z => h (pk_inj z))]
      exact ih
theorem any_kt (k : Int × Int) : ∀ l : List Pk, (vtL l).any (fun kv => decide (kv.1 = pk k)) = l.any fun e => decide (e.1 = k)
  | [] => rfl
  | e :: l => by
    have ih := any_kt k l
    show (decide (pk e.1 = pk k) || (vtL l).any fun kv => decide (kv.1 = pk k)) = (decide (e.1 = k) || l.any fun e => decide (e.1 = k))
    rw [ih]
    congr 1
    simp [pk_eq]
theorem putK_kt (l : List Pk) (k : Int × Int) (c : Int) : putK (vtL l) (pk k) (V.int c) = vtL (putP l k c) := by
  unfold putK putP
  rw [any_kt]
  split
  · unfold vtL
    rw [List.map_map, List.map_map]
    refine List.map_congr_left fun e _ => ?_
    show (if pk e.1 = pk k then (pk e.1, V.int c) else (pk e.1, V.int e.2)) = (pk (if e.1 = k then (e.1, c) else e).1, V.int (if e.1 = k then (e.1, c) else e).2)
    by_cases h : e.1 = k
    · rw [if_pos h, if_pos (by rw [h])]
    · rw [if_neg h, if_neg fun z => h (pk_inj z)]
  · unfold vtL
    rw [List.map_append]
    rfl
theorem rep_pair {K : Fg} {G : Hp} {v : V} {k : Int × Int} (h : Rep K G v (pairI k)) : ∃ b, v = .ref b ∧ G b = some (.tup ((pk k).map kV)) := by
  unfold pairI at h
  cases h with
  | tup e r =>
    cases r with
    | cons a t =>
      cases t with
      | cons b u =>
        cases u; cases a; cases b
        exact ⟨_, rfl, e⟩
section
variable {X : Cx} {e tg iter c a b k v : Expr} {te ta tb ty tv tk td tx : PT0} {pos pos' p p0 p1 p2 : Pos} {es : List Expr}
/-- x = {}, by pairs -/
def sOwnT (i : Nat) : PTS := fun P ρ => i < ρ.length ∧ P.nx (ρ.set i (.own (kt [])))
theorem ds_ownT (i : Nat) {x : Str} {p2 : Pos} (hN : X.N.Nodup) (hi : X.N[i]? = some x := by rfl) (hx : Loc X.env.scope x := by first | exact Or.inl rfl | exact Or.inr rfl) (hs : swapsWith (.Dict [] [] p2) (some (.Name x pos')) pos.line X.env = pure false := by rfl)
    (hf : X.fn x = true ∨ X.env.scope.names.lookup x = some .local := by first | exact .inl rfl | exact .inr rfl) : DS X (.Assign [.Name x pos'] (.Dict [] [] p2) pos) (sOwnT i) :=
  PS.weak (ps_set hN hi hx pe_dnewT hs hf) fun Dn σ H ⟨r0, G0, H0, r, G, ρ, P, E, ⟨hi, p⟩, q⟩ => fun c hc => q.nx _ _ _ _ _ p (E.take hc (.dicT (l := ktL []) upd_same (kt_rep [])) hi)
/-- x[a, b] = e -/
def sPutT (i : Nat) (tk tv : PT0) : PTS := fun P ρ => tv ρ fun y => ∃ l, ρ[i]? = some (.own (kt l)) ∧ tk ρ fun x => ∃ k n, x = pairI k ∧ y = .int n ∧ l.length < sizeLine ∧ P.nx (ρ.set i (.own (kt (putP l k n))))
theorem ds_putT (i : Nat) {x : Str} (hu : X.A.units + 1 < cLine) (hk : DE X k tk) (hv : DE X v tv) (hi : X.N[i]? = some x := by rfl) (hvs : Vis X.env.scope x := by first | exact Or.inl rfl | exact Or.inr (Or.inl rfl) | exact Or.inr (Or.inr rfl)) (hd : (x == ("__debug__" : Str)) = false := by decide)
    (hcd : (x == ("__classdict__" : Str)) = false := by decide) (hs : swapsWith v (some (.Subscript (.Name x p0) k p1)) pos.line X.env = pure false := by rfl) : DS X (.Assign [.Subscript (.Name x p0) k p1] v pos) (sPutT i tk tv) :=
  PS.weak (ps_dput hu (pe_var hi hvs hd hcd) hk hv hs) fun Dn σ H ⟨r0, G0, H0, r, G, ρ, P, E, p, q⟩ => ⟨r, G, ρ, _, E.env, p, fun w y G1 H1 ⟨l, el, p1⟩ W1 R1 => by
    have E1 := E.grow W1
    obtain ⟨a, h1, h2⟩ := own_kt E1.env el
    refine ⟨.ref a, h1, r, G1, ρ, _, E1.env, p1, fun u x G2 H2 ⟨key, n, ek, en, hl, p2⟩ W2 R2 => ?_⟩
    have E2 := E1.grow W2
    obtain ⟨a', h1', h2'⟩ := own_kt E2.env el
    rw [h1] at h1'
    cases h1'
    subst ek en
    cases R1
    obtain ⟨b, rfl, hb⟩ := rep_pair R2
    refine ⟨a, _, rfl, .t h2' (E2.env.st.gh _ _ hb) (by simpa [vtL] using hl), ?_⟩
    rw [putK_kt]
    exact q.nx _ _ _ _ _ p2 (E2.put el h1 (.dicT upd_same (kt_rep _)))⟩
/-- x.get((a, b), e), x one's own -/
def dGet2 (i : Nat) (tk tx : PT0) : PT0 := fun ρ P => ∃ l, ρ[i]? = some (.own (kt l)) ∧ tk ρ fun y => tx ρ fun z => ∃ k n, y = pairI k ∧ z = .int n ∧ P (.int ((getP l k).getD n))
theorem de_get2 (i : Nat) {x : Str} {apos cpos : Pos} {e f : Expr} {te tf : PT0} (hu : X.A.units + 1 < cLine) (he : DE X e te) (hf : DE X f tf) (hi : X.N[i]? = some x := by rfl) (hvs : Vis X.env.scope x := by first | exact Or.inl rfl | exact Or.inr (Or.inl rfl) | exact Or.inr (Or.inr rfl)) (hd : (x == ("__debug__" : Str)) = false := by decide)
    (hcd : (x == ("__classdict__" : Str)) = false := by decide) (m : M2 X (.Name x p0) "get" apos e f cpos := by exact ⟨rfl, rfl, rfl, rfl⟩) : DE X (.Call (.Attribute (.Name x p0) "get" apos) [e, f] [] cpos) (dGet2 i te tf) :=
  PE.weak (pe_dget2 hu (pe_var hi hvs hd hcd) he hf m) fun σ H Q ⟨r, G, ρ, P, E, ⟨l, el, p⟩, q⟩ => by
    obtain ⟨a, h1, h2⟩ := own_kt E el
    refine ⟨.ref a, h1, a, rfl, .inr ⟨_, .inl h2⟩, r, G, ρ, _, E, p, fun u y G1 H1 p1 W1 R1 => ⟨r, G1, ρ, _, E.grow W1, p1, fun w z G2 H2 ⟨k, n, ek, en, p2⟩ W2 R2 => ?_⟩⟩
    subst ek en
    cases R2
    have E2 := (E.grow W1).grow W2
    obtain ⟨a', h1', h2'⟩ := own_kt E2 el
    rw [h1] at h1'
    cases h1'
    obtain ⟨b, rfl, hb⟩ := rep_pair (R1.mono W2.g)
    refine ⟨_, DGet.t h2' (W2.gh _ _ hb), ?_⟩
    rw [valV_kt]
    cases h : getP l k with
    | none => rw [h] at p2; exact q _ _ _ _ p2 (W1.trans W2) (.int _)
    | some m => rw [h] at p2; exact q _ _ _ _ p2 (W1.trans W2) (.int _)
/-- k in d, k not in d, d[k]: d known -/
def dInT (n : Bool) (tk td : PT0) : PT0 := fun ρ P => tk ρ fun x => td ρ fun d => ∃ l k, d = kt l ∧ x = pairI k ∧ P (.bool (n != (getP l k).isSome))
theorem de_notInT (hu : X.A.units + 1 < cLine) (hk : DE X k tk) (hd : DE X a td) (hm : behindInMarks .NotIn a = false := by rfl) : DE X (.Compare k [.NotIn] [a] pos) (dInT true tk td) :=
  PE.weak (pe_cmp (pc_dnotin hu hk hd) hm) fun σ H Q ⟨r, G, ρ, P, E, p, q⟩ => ⟨r, G, ρ, _, E, p, fun u x G1 H1 p1 W1 R1 => ⟨r, G1, ρ, _, E.grow W1, p1, fun w d G2 H2 ⟨l, key, ed, ek, p2⟩ W2 R2 => by
    subst ek ed
    obtain ⟨c, o', rfl, hg⟩ := rep_kt R2
    obtain ⟨b, rfl, hb⟩ := rep_pair (R1.mono W2.g)
    refine ⟨c, _, rfl, .inr ⟨vtL l, pk key, b, .inr ⟨o', W2.gh _ _ hg⟩, rfl, W2.gh _ _ hb, rfl⟩, ?_⟩
    rw [valV_kt, Option.isSome_map]
    exact q _ _ _ _ (by simpa using p2) (W1.trans W2) (.bl _)⟩⟩
theorem dt_notInT (hu : X.A.units + 1 < cLine) (hk : DE X k tk) (hd : DE X a td) (hm : behindInMarks .NotIn a = false := by rfl) : DT X (.Compare k [.NotIn] [a] pos) (dTest (dInT true tk td)) :=
  PT.weak (pt_cmp (pc_dnotin hu hk hd) hm) fun σ H Q ⟨r, G, ρ, P, E, p, q⟩ => ⟨r, G, ρ, _, E, p, fun u x G1 H1 p1 W1 R1 => ⟨r, G1, ρ, _, E.grow W1, p1, fun w d G2 H2 ⟨l, key, ed, ek, p2⟩ W2 R2 => by
    subst ek ed
    obtain ⟨c, o', rfl, hg⟩ := rep_kt R2
    obtain ⟨b, rfl, hb⟩ := rep_pair (R1.mono W2.g)
    refine ⟨c, _, rfl, .inr ⟨vtL l, pk key, b, .inr ⟨o', W2.gh _ _ hg⟩, rfl, W2.gh _ _ hb, rfl⟩, ?_⟩
    rw [valV_kt, Option.isSome_map]
    obtain ⟨kk, e3, p3⟩ := p2
    cases e3
    exact ⟨_, rfl, q _ _ _ (by simpa using p3) (W1.trans W2)⟩⟩⟩
def dGetT (td tk : PT0) : PT0 := fun ρ P => td ρ fun d => tk ρ fun x => ∃ l k n, d = kt l ∧ x = pairI k ∧ getP l k = some n ∧ P (.int n)
theorem de_getT (hu : X.A.units + 1 < cLine) (hd : DE X a td) (hk : DE X k tk) (hs : NoSl k := by exact fun _ _ => rfl) : DE X (.Subscript a k pos) (dGetT td tk) :=
  PE.weak (pe_dget hu hd hk hs) fun σ H Q ⟨r, G, ρ, P, E, p, q⟩ => ⟨r, G, ρ, _, E, p, fun u d G1 H1 p1 W1 R1 => ⟨r, G1, ρ, _, E.grow W1, p1, fun w x G2 H2 ⟨l, key, n, ed, ek, hy, p2⟩ W2 R2 => by
    subst ek ed
    obtain ⟨c, o', rfl, hg⟩ := rep_kt (R1.mono W2.g)
    obtain ⟨b, rfl, hb⟩ := rep_pair R2
    exact ⟨c, V.int n, rfl, .inr ⟨vtL l, pk key, b, .inr ⟨o', W2.gh _ _ hg⟩, rfl, W2.gh _ _ hb, by rw [valV_kt, hy]; rfl⟩, q _ _ _ _ p2 (W1.trans W2) (.int _)⟩⟩⟩
end
end PD
/-! PDt: sorted(..) of rows of ints of any sign, len(set(..)). -/
namespace PD
open PySem PySem.Spec PyProof.Rows L2

/-- the rank of a row, M added to each of its ints -/
def rk (M B : Int) (ns : List Int) : Int := TS.code B (ns.map (· + M))
def Bm (M B : Int) (ns : List Int) : Prop := TS.Bd B (ns.map (· + M))
theorem Bm.hd {M B p : Int} {ns : List Int} (h : Bm M B (p :: ns)) : 0 ≤ p + M ∧ p + M < B := h (p + M) (by simp)
theorem Bm.tl {M B p : Int} {ns : List Int} (h : Bm M B (p :: ns)) : Bm M B ns := fun m hm => h m (by rw [List.map_cons]; exact List.mem_cons_of_mem _ hm)
section
variable {prog : Program} {w : World} {A : Around} {E : Value → Shared → Prop} {s : Shared} {Q : Bool → Shared → Prop}
theorem rows_lex {M B : Int} {b : Bool} : ∀ {us vs : List Value} {ns ms : List Int} (i : Nat), IntsAre us ns → IntsAre vs ms → ns.length = ms.length → Bm M B ns → Bm M B ms → Q (decide (rk M B ns < rk M B ms)) s → PySem.W.KatLex prog w A b false Q (us.zip vs) i s
  | _, _, _, _, i, .nil, .nil, _, _, _, h => by
    have z : decide (rk M B [] < rk M B []) = false := decide_eq_false (Int.lt_irrefl _)
    rw [z] at h
    exact PySem.W.kat_nil h
  | _, _, _, _, i, .nil, .cons _ _ _, hl, _, _, _ => by simp at hl
  | _, _, _, _, i, .cons _ _ _, .nil, hl, _, _, _ => by simp at hl
  | _, _, _, _, i, .cons (ns := ns) p t hu, .cons (ns := ms) q u hv, hl, h1, h2, h => by
    have hl2 : ns.length = ms.length := by simpa using hl
    have hl3 : (ns.map (· + M)).length = (ms.map (· + M)).length := by simpa using hl2
    show PySem.W.KatLex prog w A b false Q ((Value.int p t, Value.int q u) :: _) i s
    refine PySem.W.kat_cons (wpAny_eqBool_int ?_)
    by_cases e : p = q
    · subst e
      rw [beq_self_eq_true]
      have z : decide (rk M B (p :: ns) < rk M B (p :: ms)) = decide (rk M B ns < rk M B ms) := decide_eq_decide.mpr (TS.code_same hl3)
      rw [z] at h
      exact PySem.W.kat_yes (rows_lex (i + 1) hu hv hl2 h1.tl h2.tl h)
    · rw [show (p == q) = false from beq_eq_false_iff_ne.mpr e]
      refine PySem.W.kat_no (TS.oneLt_ints _ ?_)
      have z : decide (rk M B (p :: ns) < rk M B (q :: ms)) = decide (p < q) := by
        refine decide_eq_decide.mpr ⟨fun k => ?_, fun k => TS.code_lt hl3 h1.tl h2.tl (by show p + M < q + M; omega)⟩
        rcases Int.lt_trichotomy p q with y | y | y
        · exact y
        · exact absurd y e
        · have g : rk M B (q :: ms) < rk M B (p :: ns) := TS.code_lt hl3.symm h2.tl h1.tl (by show q + M < p + M; omega)
          omega
      rw [z] at h
      exact h
end
def RowsOk (h : Heap) (d : Nat) (M B : Int) (vs : List Value) : Prop := ∀ v, v ∈ vs → ∃ ns, TS.TupInts h v ns ∧ ns.length = d ∧ Bm M B ns
theorem RowsOk.keeps {h h' : Heap} {d : Nat} {M B : Int} {vs : List Value} (x : RowsOk h d M B vs) (k : ∀ b o, h.get? b = some o → o.cls = .type "tuple" → h'.get? b = some o) : RowsOk h' d M B vs := fun v hv => by
  obtain ⟨ns, a, b, c⟩ := x v hv
  exact ⟨ns, a.keeps k, b, c⟩
theorem rows_firsts {h : Heap} {d : Nat} {M B : Int} (hd : 1 ≤ d) : ∀ us : List Value, RowsOk h d M B us → ∃ gs, PySem.W.KatTups h us gs ∧ gs.length = us.length ∧ ∀ g, g ∈ gs → ∃ n t, g = Value.int n t
  | [], _ => ⟨[], PySem.W.KatTups.nil, rfl, fun g hg => absurd hg (by simp)⟩
  | u :: us, x => by
    obtain ⟨gs, k, hl, hi⟩ := rows_firsts hd us fun y hy => x y (List.mem_cons_of_mem _ hy)
    obtain ⟨ns, ⟨a, cs, rfl, ⟨o, ho, hc, n, hdt⟩, ia⟩, hn, _⟩ := x u (List.mem_cons_self ..)
    obtain ⟨y, ys, ec⟩ : ∃ y ys, cs.toList = y :: ys := by
      cases qc : cs.toList with
      | nil =>
        rw [qc] at ia
        have il := ia.length
        rw [List.length_nil, hn] at il
        omega
      | cons y ys => exact ⟨y, ys, rfl⟩
    obtain ⟨m, t, hy⟩ := ia.all y (by rw [ec]; exact List.mem_cons_self ..)
    refine ⟨y :: gs, PySem.W.KatTups.cons ho hc hdt ?_ k, by simp [hl], fun g hg => ?_⟩
    · have z := congrArg (fun l : List Value => l[0]?) ec
      simpa using z
    · rcases List.mem_cons.mp hg with rfl | hg
      · exact ⟨m, t, hy⟩
      · exact hi g hg
section
variable {prog : Program} {w : World} {A : Around} {E : Value → Shared → Prop} {s : Shared}
theorem rows_kind {d : Nat} {M B : Int} {us : List Value} (hd : 1 ≤ d) (two : 2 ≤ us.length) (x : RowsOk s.heap d M B us) (r : Value → Int) (hr : ∀ v, v ∈ us → ∀ ns, TS.TupInts s.heap v ns → r v = rk M B ns) (Q : SortKind → Shared → Prop)
    (h : ∀ κ, TS.Cmp prog w A s κ (pairsOf us) r → Q κ s) : wpAny (model prog w) A (keyKind' us.toArray) Q E s := by
  obtain ⟨gs, k, hl, hi⟩ := rows_firsts hd us x
  refine PySem.W.kat_kind (T := Value.type "int") k (by omega) (fun g hg => ?_) rfl (h _ ?_)
  · obtain ⟨n, t, rfl⟩ := hi g hg
    exact PySem.W.Looks.of_pure rfl
  · intro p q hp hq Q2 E2 h2
    rw [pairsOf_toList] at hp hq
    have mp := (mem_zip_self hp).2
    have mq := (mem_zip_self hq).2
    obtain ⟨ns, tp, lp, bp⟩ := x _ mp
    obtain ⟨ms, tq, lq, bq⟩ := x _ mq
    have h3 : Q2 (decide (rk M B ns < rk M B ms)) s := by
      rw [← hr _ mp _ tp, ← hr _ mq _ tq]
      exact h2
    obtain ⟨a, cs, ep, ⟨o, ho, hc, n, hdt⟩, ia⟩ := tp
    obtain ⟨a', cs', eq, ⟨o', ho', hc', n', hdt'⟩, ia'⟩ := tq
    rw [ep, eq]
    refine PySem.W.kat_lt ho hdt ho' hdt' ?_
    have same : decide (cs.size < cs'.size) = false := by
      have j1 := ia.length
      have j2 := ia'.length
      rw [Array.length_toList] at j1 j2
      exact decide_eq_false (by omega)
    rw [same]
    exact rows_lex 0 ia ia' (by omega) bp bq h3
theorem rows_sort {a : Addr} {us : List Value} {n d : Nat} {M B : Int} {P : PySem.Fin → Shared → Prop} (ha : s.heap.get? a = some (seqObj "list" us.toArray n)) (few : us.length < 64) (hd : 1 ≤ d) (x : RowsOk s.heap d M B us)
    (r : Value → Int) (hr : ∀ v, v ∈ us → ∀ ns, TS.TupInts s.heap v ns → r v = rk M B ns)
    (h : ∀ out : Array Value, out.toList.Perm us → out.toList.Pairwise (fun u v => r u ≤ r v) → P (.done (.ret .none)) { s with heap := sortedHeap s.heap a us out }) :
    wpAny (model prog w) A (Builtin.«list.sort» ⟨[.ref a], []⟩) P E s := by
  have stay : ∀ b o, s.heap.get? b = some o → o.cls = .type "tuple" → (TS.midHeap s.heap a us).get? b = some o := fun b o e hc => by
    refine TS.midHeap_old (fun z => ?_) e
    subst z
    rw [ha] at e
    have e1 : seqObj "list" us.toArray n = o := Option.some.inj e
    rw [← e1] at hc
    have e2 : Value.type "list" = Value.type "tuple" := hc
    injection e2 with e3
    exact absurd e3 (by decide)
  refine SK.plain_sort (r := r) ha few (fun two Q hQ => ?_) fun ps out g1 g2 g3 => ?_
  · refine rows_kind (s := { s with heap := TS.midHeap s.heap a us }) hd two (x.keeps stay) r (fun v hv ns t => ?_) Q hQ
    obtain ⟨n0, t0, _⟩ := x v hv
    have e : ns = n0 := t.ints.symm.trans (t0.keeps stay).ints
    rw [e]
    exact hr v hv n0 t0
  · obtain ⟨z1, z2⟩ := TS.out_rank g1 g2 g3
    exact h out z1 z2
theorem collect_tup {t : Addr} {us : List Value} {Q : List Value → Shared → Prop} (ht : IsTup s.heap t us.toArray) (hz : us.length ≤ sizeLine)
    (h : Q us { s with heap := (s.heap.push (seqObj "list" #[] 0)).update s.heap.objs.size (Obj.mapSeq (· ++ us.toArray)) }) :
    wpAny (model prog w) A (collect (.ref t)) Q E s := by
  obtain ⟨ot, e1, e2, m, e3⟩ := id ht
  unfold collect
  refine wpAny_bind (wpAny_runValue (codeAny_builtin entry_proto_collect' ?_))
  show wpAny _ _ (do again (.builtin "list.__iadd__" ⟨[← newList [], .ref t], []⟩)) _ _ s
  refine wpAny_bind (wpAny_newList (wpAny_pure ⟨Code.quiet_builtin _ (by decide +kernel), codeAny_builtin entry_list_iadd' ?_⟩))
  show wpAny _ _ (Builtin.List.listExtendWith (.ref s.heap.objs.size) (.ref t) (.ref s.heap.objs.size)) _ _ { s with heap := s.heap.push (seqObj "list" #[] 0) }
  unfold Builtin.List.listExtendWith
  have e4 : (s.heap.push (seqObj "list" #[] 0)).get? t = some ot := Heap.get?_push_of_some _ e1
  refine wpAny_bind (wpAny_typeOf (T := "tuple") ⟨ot, e4, e2⟩ ?_)
  have yes : (Value.type "tuple" == Value.type "tuple") = true := by rfl
  rw [if_pos (by rw [yes]; simp)]
  refine wpAny_bind (listItems_at e4 e3 ?_)
  refine wpAny_bind (listItems_at (xs := (#[] : Array Value)) (n := 0) (Heap.get?_push_size _ rfl) rfl ?_)
  rw [if_neg (show ¬ _ from by simp)]
  refine wpAny_bind (listUpdate_at (xs := (#[] : Array Value)) (n := 0) (Heap.get?_push_size _ rfl) rfl ?_ (Nat.zero_le _) (by show (#[] ++ us.toArray).size ≤ sizeLine + 1; simp only [Array.size_append, List.size_toArray, List.length_nil]; omega))
  refine wpAny_pure ?_
  refine wpAny_bind (wpAny_load (get?_update_seq (Heap.get?_push_size _ rfl) _) ?_)
  show wpAny _ _ (pure ((#[] : Array Value) ++ us.toArray).toList) Q E _
  rw [show ((#[] : Array Value) ++ us.toArray).toList = us from by simp]
  exact wpAny_pure h
theorem rows_sorted {l : Addr} {us : List Value} {d : Nat} {M B : Int} {Q : Value → Shared → Prop} (hl : s.heap.IsList l us.toArray ∨ IsTup s.heap l us.toArray) (few : us.length < 64) (hd : 1 ≤ d) (x : RowsOk s.heap d M B us)
    (h : ∀ out : Array Value, out.toList.Perm us → out.toList.Pairwise (fun u v => rk M B (TS.intsOf s.heap u) ≤ rk M B (TS.intsOf s.heap v)) → Q (.ref (s.heap.objs.size + 1)) { s with heap := sortedAll s.heap us out }) :
    wpAny (model prog w) A (call (.builtin "sorted") [.ref l]) Q E s := by
  refine Calls.call_function_entry kind_sorted plain_sorted entry_sorted (args_sorted1 _) ?_
  unfold Builtin.«sorted»
  refine wpAny_bind (m := checkCount "sorted" 1 1 _) (wpAny_pure ?_)
  refine wpAny_bind ((fun k => hl.elim (fun a => collect_list a k (by rw [sizeLine_eq]; omega)) (fun a => collect_tup a (by rw [sizeLine_eq]; omega) k)) ?_)
  refine wpAny_bind (wpAny_newList ?_ (by rw [sizeLine_eq]; omega))
  generalize hg : (s.heap.push (seqObj "list" #[] 0)).update s.heap.objs.size (Obj.mapSeq (· ++ us.toArray)) = g
  have gz : g.objs.size = s.heap.objs.size + 1 := by rw [← hg, Heap.size_update, size_push']
  have old : ∀ b o, s.heap.get? b = some o → g.get? b = some o := fun b o q => by
    have lt : b < s.heap.objs.size := Heap.lt_size q
    rw [← hg, Heap.get?_update_ne _ _ _ _ (Nat.ne_of_lt lt), Heap.get?_push_ne _ _ _ (Nat.ne_of_lt lt)]
    exact q
  have newL : (g.push (seqObj "list" us.toArray 0)).get? (s.heap.objs.size + 1) = some (seqObj "list" us.toArray 0) := by
    rw [← gz]; exact Heap.get?_push_size _ rfl
  have stay : ∀ b o, s.heap.get? b = some o → o.cls = .type "tuple" → (g.push (seqObj "list" us.toArray 0)).get? b = some o := fun b o q _ => Heap.get?_push_of_some _ (old b o q)
  dsimp only
  rw [gz]
  show wpAny _ _ _ _ _ { s with heap := g.push (seqObj "list" us.toArray 0) }
  refine wpAny_bind (wpAny_holding (wpAny_call_entry slot_list_sort ⟨_, newL, rfl⟩ entry_list_sort (rows_sort newL few hd (x.keeps stay) (fun v => rk M B (TS.intsOf s.heap v)) (fun v hv ns t => ?_) fun out z1 z2 => ⟨_, rfl, ?_⟩) (args_list_sort _)))
  · obtain ⟨n0, t0, _⟩ := x v hv
    have e : ns = n0 := t.ints.symm.trans (t0.keeps stay).ints
    rw [e]
    show rk M B (TS.intsOf s.heap v) = rk M B n0
    rw [t0.ints]
  · refine wpAny_pure ⟨_, rfl, ?_⟩
    have q := h out z1 z2
    unfold sortedAll at q
    first
      | exact q
      | (rw [← hg]; exact q)
end
/-! ### as data -/
def rowI (ns : List Int) : Dt := .tuple (ns.map .int)
def fSortR (d : Nat) (M B : Int) : FC := fun ds P => ∃ rows : List (List Int), (ds = [.list (rows.map rowI)] ∨ ds = [.tuple (rows.map rowI)]) ∧ 1 ≤ d ∧ rows.length < 64 ∧ (∀ r ∈ rows, r.length = d ∧ Bm M B r) ∧
  ∀ out : List (List Int), out.Perm rows → out.Pairwise (fun a b => rk M B a ≤ rk M B b) → P (.list (out.map rowI))
theorem rep_row {K : Fg} {G : Hp} {v : V} {ns : List Int} (h : Rep K G v (rowI ns)) : ∃ b, v = .ref b ∧ G b = some (.tup (ns.map V.int)) := by
  unfold rowI at h
  cases h with
  | tup e r =>
    have := r.ints
    subst this
    exact ⟨_, rfl, e⟩
theorem row_rep {K : Fg} {G : Hp} {b : Addr} {ns : List Int} (h : G b = some (.tup (ns.map V.int))) : Rep K G (.ref b) (rowI ns) := .tup h Reps.of_ints
section
variable {X : Cx}
/-- the rows behind a list of references -/
theorem reps_rows {K : Fg} {G : Hp} : ∀ {vs : List V} {rows : List (List Int)}, Reps K G vs (rows.map rowI) → ∃ bs : List Addr, vs = bs.map V.ref ∧ Paired (fun b ns => G b = some (.tup ((ns : List Int).map V.int))) bs rows
  | _, [], h => by cases h; exact ⟨[], rfl, .nil⟩
  | _, r :: rows, h => by
    rw [List.map_cons] at h
    cases h with
    | cons a t =>
      obtain ⟨b, rfl, hb⟩ := rep_row a
      obtain ⟨bs, e, hp⟩ := reps_rows t
      exact ⟨b :: bs, by rw [e]; rfl, .cons hb hp⟩
theorem refs_out {bs : List Addr} {us : List Value} (h : Vals (bs.map V.ref) us) : us = bs.map Value.ref := by
  induction bs generalizing us with
  | nil => cases h; rfl
  | cons b bs ih =>
    cases h with
    | cons a t => cases a; rw [ih t]; rfl
theorem pair_perm {α β : Type} {R : α → β → Prop} : ∀ {as as' : List α}, as'.Perm as → ∀ {bs : List β}, Paired R as bs → ∃ bs', bs'.Perm bs ∧ Paired R as' bs' := by
  intro as as' h
  induction h with
  | nil => intro bs hp; exact ⟨bs, .refl _, hp⟩
  | cons a _ ih =>
    intro bs hp
    cases hp with
    | cons r t =>
      obtain ⟨bs', h1, h2⟩ := ih t
      exact ⟨_ :: bs', h1.cons _, .cons r h2⟩
  | swap a b l =>
    intro bs hp
    cases hp with
    | cons r t =>
      cases t with
      | cons r2 t => exact ⟨_, .swap .., .cons r2 (.cons r t)⟩
  | trans _ _ ih1 ih2 =>
    intro bs hp
    obtain ⟨bs1, h1, h2⟩ := ih2 hp
    obtain ⟨bs2, h3, h4⟩ := ih1 h2
    exact ⟨bs2, h3.trans h1, h4⟩
theorem paired_back {α β : Type} {R : α → β → Prop} : ∀ {as : List α} {bs : List β} {j : Nat} {y : β}, Paired R as bs → bs[j]? = some y → ∃ x, as[j]? = some x ∧ R x y
  | _, _, _, _, .nil, e => by simp at e
  | _, _, 0, _, .cons r t, e => by simp at e; subst e; exact ⟨_, rfl, r⟩
  | _, _, j + 1, _, .cons r t, e => by
    obtain ⟨x, h1, h2⟩ := paired_back (j := j) t (by simpa using e)
    exact ⟨x, by simpa using h1, h2⟩
theorem dc_sortR {d : Nat} {M B : Int} : DC X (.builtin "sorted") (fSortR d M B) := by
  intro pins s σ H vs us Q I rv ⟨r, G, ds, P, S, hd, ⟨rows, eds, hd1, few, hr, p⟩, q⟩
  have key : ∀ (l : Addr) (ws : List V), vs = [.ref l] → (SqL X.K H l ws ∨ SqT X.K H l ws) → Reps X.K G ws (rows.map rowI) → wpAny (model X.prog X.w) X.A (call (.builtin "sorted") us) (EP X pins σ Q) X.xe s := by
    intro l ws ev hl hw
    subst ev
    rw [Vals.ref1 rv]
    obtain ⟨bs, rfl, hp⟩ := reps_rows hw
    have hlen : bs.length = rows.length := Paired.length hp
    obtain ⟨its, e1, hshape⟩ : ∃ its : List Value, its = bs.map Value.ref ∧ (s.heap.IsList l its.toArray ∨ IsTup s.heap l its.toArray) := by
      rcases hl with hl | hl
      · obtain ⟨its, rr, pl, hz⟩ := I.list hl
        exact ⟨its, refs_out rr, .inl pl.isList⟩
      · obtain ⟨its, rr, ht, hz⟩ := I.tuple hl
        exact ⟨its, refs_out rr, .inr ht⟩
    subst e1
    have raw : ∀ {b : Addr} {ns : List Int}, G b = some (.tup (ns.map V.int)) → TS.TupInts s.heap (.ref b) ns := fun {b ns} e => tupI_raw I (.inl (.inl (S.gh _ _ e)))
    refine rows_sorted (d := d) (M := M) (B := B) hshape (by rw [List.length_map, hlen]; exact few) hd1 (fun v hv => ?_) fun out h1 h2 => ?_
    · obtain ⟨b, hb, rfl⟩ := List.mem_map.mp hv
      obtain ⟨j, hj⟩ := List.mem_iff_getElem?.mp hb
      obtain ⟨ns, hns, e⟩ := paired_get hp hj
      exact ⟨ns, raw e, hr ns (List.mem_of_getElem? hns)⟩
    · obtain ⟨ep, he⟩ := PyProof.Rows.sortedAll_at s.heap (bs.map Value.ref) out
      obtain ⟨cs, hc1, hc2⟩ : ∃ cs : List Addr, out.toList = cs.map Value.ref ∧ cs.Perm bs := by
        refine ⟨out.toList.map fun v => match v with | .ref b => b | _ => 0, ?_, ?_⟩
        · rw [List.map_map]
          conv => lhs; rw [← List.map_id out.toList]
          refine List.map_congr_left fun v hv => ?_
          obtain ⟨b, _, rfl⟩ := List.mem_map.mp (h1.mem_iff.mp hv)
          rfl
        · have := h1.map fun v => match v with | .ref b => b | _ => (0 : Addr)
          rw [List.map_map] at this
          have e2 : (bs.map ((fun v => match v with | .ref b => b | _ => (0 : Addr)) ∘ Value.ref)) = bs := by
            conv => rhs; rw [← List.map_id bs]
            rfl
          rw [e2] at this
          exact this
      obtain ⟨outs, ho1, ho2⟩ := pair_perm hc2 hp
      have hz : (cs.map V.ref).length ≤ sizeLine := by rw [List.length_map, hc2.length_eq, hlen, sizeLine_eq]; omega
      have hfr : H (s.heap.objs.size + 1) = none := I.hok.fresh (Nat.le_succ _)
      have rvs : Vals (cs.map V.ref) out.toList := by
        rw [hc1]
        clear hc1 hc2 ho1 ho2 hz
        induction cs with
        | nil => exact .nil
        | cons c cs ih => exact .cons rfl ih
      have W := S.lay (o := .lst (cs.map V.ref)) hfr
      refine ⟨.ref _, upd H (s.heap.objs.size + 1) (.lst (cs.map V.ref)), I.laid (t' := s.toks) (fun _ _ => PyProof.Rows.sortedAll_old) (Nat.le_succ _) ⟨hz, out.toList, ep, rvs, he⟩, rfl, q _ _ _ _ (p outs ho1 ?_) W (.lst upd_same ?_)⟩
      · rw [hc1, List.pairwise_map] at h2
        have hk : ∀ {cs : List Addr} {outs : List (List Int)}, Paired (fun b ns => G b = some (.tup ((ns : List Int).map V.int))) cs outs → cs.Pairwise (fun a b => rk M B (TS.intsOf s.heap (.ref a)) ≤ rk M B (TS.intsOf s.heap (.ref b))) → outs.Pairwise (fun a b => rk M B a ≤ rk M B b) := by
          intro cs outs hp
          induction hp with
          | nil => intro _; exact .nil
          | cons e t ih =>
            intro hw
            obtain ⟨w1, w2⟩ := List.pairwise_cons.mp hw
            refine List.pairwise_cons.mpr ⟨fun m hm => ?_, ih w2⟩
            obtain ⟨j, hj⟩ := List.mem_iff_getElem?.mp hm
            obtain ⟨b, hb, eb⟩ : ∃ b, _ ∧ G b = some (.tup ((m : List Int).map V.int)) := by
              obtain ⟨b, hb, eb⟩ := paired_back t hj
              exact ⟨b, hb, eb⟩
            have := w1 b (List.mem_of_getElem? hb)
            rw [(raw e).ints, (raw eb).ints] at this
            exact this
        exact hk ho2 h2
      · have : ∀ {cs : List Addr} {outs : List (List Int)}, Paired (fun b ns => G b = some (.tup ((ns : List Int).map V.int))) cs outs → Reps X.K G (cs.map V.ref) (outs.map rowI) := by
          intro cs outs hp
          induction hp with
          | nil => exact .nil
          | cons e t ih => exact .cons (row_rep e) ih
        exact (this ho2).mono W.g
  rcases eds with e | e
  · subst e
    cases hd with
    | cons h1 h2 =>
      cases h2
      cases h1 with
      | lst e r1 => exact key _ _ rfl (.inl (SqL.of (S.gh _ _ e))) r1
  · subst e
    cases hd with
    | cons h1 h2 =>
      cases h2
      cases h1 with
      | tup e r1 => exact key _ _ rfl (.inr (same_seqP S.gh e)) r1
end
end PD
/-! PDp: pairs walked, lists that a def gives away, sets of ints and of pairs by their size. -/
namespace PD
open PySem PySem.Spec PyProof.Rows L2

/-! ### [e for (x, y), z in d.items()] -/
def gPairs (K : Fg) (i j k : Nat) : TG := gTup K 2 (gCons (gTup K 2 (gCons (gName i) (gCons (gName j) gNil))) (gCons (gName k) gNil))
def put3 (i j k : Nat) (e : Pk) (ρ : List PV) : List PV := ((ρ.set i (.d (.int e.1.1))).set j (.d (.int e.1.2))).set k (.d (.int e.2))
def lcT (te : PT0) (i j k : Nat) (ρ : List PV) : List Pk → List Dt → (List Dt → Prop) → Prop
  | [], acc, P => P acc
  | e :: es, acc, P => te (put3 i j k e ρ) fun y => lcT te i j k ρ es (acc ++ [y]) P
def dCompT (td : PT0) (i j k : Nat) (te : PT0) (vs : List Nat) : PT0 := fun ρ P => td ρ fun d => ∃ l, d = kt l ∧ l.length ≤ sizeLine ∧ lcT te i j k (wipeP ρ vs) l [] fun ys => P (.list ys)
theorem walk_pairs {d : Addr} {o : Obj} {kvs : List (List Key × V)} : Walk (Itq d o kvs) kvs.length (fun H => H d = some (.frz o (.dT kvs))) (fun i H x H' => ∃ (T q : Addr) (k : List Key) (v : V), kvs[i]? = some (k, v) ∧ x = .ref T ∧ H T = none ∧ H q = some (.tup (k.map kV)) ∧ H' = upd H T (.tup [.ref q, v])) :=
  ⟨fun _ _ hi q => ⟨q, hi⟩, fun _ q => ⟨q, Nat.le_refl _⟩, fun _ _ _ _ _ _ y => y⟩
section
variable {X : Cx} {pos p p0 p1 p2 px py pz : Pos} {e : Expr}
theorem lift_pairs {td te : PT0} {i j k : Nat} {vs : List Nat} (hv : i ∈ vs ∧ j ∈ vs ∧ k ∈ vs) {σ : L2.St} {H : Hp} {Q : VK} (h : liftE X.K (dCompT td i j k te vs) σ H Q) :
    tLc (iPairs (liftE X.K td)) (gPairs X.K i j k) tYes (liftE X.K te) vs σ H Q := by
  obtain ⟨r, G, ρ, P, E, p, q⟩ := h
  refine ⟨r, G, ρ, _, E, p, fun v d G1 H1 ⟨l, ed, hz, p1⟩ W1 R1 => ?_⟩
  subst ed
  obtain ⟨a, o, rfl, hg⟩ := rep_kt R1
  refine ⟨a, o, vtL l, rfl, W1.gh _ _ hg, fun D hD => ?_⟩
  have S1 : Start X.K r G1 H1 := W1.start E.st
  have E1 := E.grow W1
  have gD : G1 D = none := S1.gh.free hD
  have rD : r ≠ some D := S1.rowNe hD
  have hlen : (vtL l).length = l.length := by simp [vtL]
  refine lc_it walk_pairs (fun i0 H => ∃ Gi acc ds, Grow X.K r G1 H1 Gi H ∧ Gi D = none ∧ H D = some (.lst acc) ∧ Reps X.K Gi acc ds ∧ ds.length ≤ i0 ∧ lcT te i j k (wipeP ρ vs) (l.drop i0) ds fun ys => P (.list ys))
    ⟨G1, [], [], S1.grow.off hD gD rD, gD, upd_same, .nil, Nat.zero_le _, by rw [List.drop_zero]; exact p1⟩ (fun i0 H _ ⟨Gi, _, _, W, _⟩ => W.gh _ _ (W.g _ _ hg)) (fun i0 x H H' hi ⟨Gi, acc, ds, W, gi, hd, R, hl, pp⟩ hy => ?_) (fun H ⟨Gi, acc, ds, W, gi, hd, R, hl, pp⟩ => ?_)
  · rw [hlen] at hi
    obtain ⟨T, q0, kk, v, e1, rfl, hT, hq, rfl⟩ := hy
    have e2 : (pk l[i0].1, V.int l[i0].2) = (kk, v) := by
      unfold vtL at e1
      rw [List.getElem?_map, List.getElem?_eq_getElem hi] at e1
      exact Option.some.inj e1
    obtain ⟨rfl, rfl⟩ := Prod.mk.inj e2
    rw [List.drop_eq_getElem_cons hi] at pp
    have Si := W.start S1
    have Wc := Si.lay0 (o := .tup [.ref q0, V.int l[i0].2]) hT
    have hq' : (upd H T (.tup [.ref q0, V.int l[i0].2])) q0 = some (.tup ((pk l[i0].1).map kV)) := by rw [upd_ne (ne_of_none hq hT)]; exact hq
    refine ⟨T, _, rfl, .inl (.inl upd_same), rfl, _, _, rfl, ⟨q0, _, rfl, .inl (.inl hq'), rfl, _, _, rfl, _, _, rfl, rfl, _, _, rfl, rfl, ?_⟩⟩
    have Ew := ((E1.grow W).grow Wc).wipe vs
    have A1 := Ew.set (i := i) (v := .int l[i0].1.1) (x := .int l[i0].1.1) (.int _)
    have A2 := A1.set (i := j) (v := .int l[i0].1.2) (x := .int l[i0].1.2) (.int _)
    have A3 := A2.set (i := k) (v := .int l[i0].2) (x := .int l[i0].2) (.int _)
    have Sx : Sets ([i] ++ [j] ++ [k]) (L2.wipe σ vs) (wipeP ρ vs) _ _ := ((set_sets (K := X.K) (r := r) (G := Gi) (H := H) i (.int l[i0].1.1) (.int l[i0].1.1)).trans (set_sets (K := X.K) (r := r) (G := Gi) (H := H) j (.int l[i0].1.2) (.int l[i0].1.2))).trans (set_sets (K := X.K) (r := r) (G := Gi) (H := H) k (.int l[i0].2) (.int l[i0].2))
    refine ⟨wipe_twice (js := [i] ++ [j] ++ [k]) (fun m hm => ?_) (fun m hm => (Sx.other m hm).1) (Sx.len.trans (wipe_length σ vs)), ?_⟩
    · simp only [List.mem_append, List.mem_singleton] at hm
      rcases hm with (rfl | rfl) | rfl
      · exact hv.1
      · exact hv.2.1
      · exact hv.2.2
    simp only [tYes, eq_self, if_true]
    refine ⟨r, Gi, _, _, A3, pp, fun y d G4 H4 p4 W4 R4 => ?_⟩
    have hd2 := Wc.h D _ rD hd
    have hd4 := W4.h D _ rD hd2
    have gi4 := W4.y D _ hd2 gi
    have hal := R.length
    exact ⟨acc, hd4, by omega, G4, acc ++ [y], ds ++ [d], ((W.trans Wc).trans W4).off hD gi4 rD, gi4, upd_same, (R.mono W4.g).snoc R4, by rw [List.length_append, List.length_singleton]; omega, p4⟩
  · rw [hlen, List.drop_length] at pp
    have pp : P (.list ds) := pp
    exact q _ _ _ _ pp (W1.trans (W.freeze hD gi hd)) (.lst upd_same (R.mono (same_upd gi)))
theorem de_lcT {elt : Expr} {scope : Scope} (own : List (Str × Nat)) (i j k : Nat) {td te : PT0} {elts : List Expr} {k2 : Nat} {apos cpos : Pos} (hc : X.calm = true) (hN : X.N.Nodup) (hd : DE X e td)
    (hg : ∀ (s : Shared) (H : Hp) (C : Addr) (cl : List (Str × Addr)) (fp : List Addr), PG (X.blk s H scope (compEnvC scope cl C X.env) fp) (.Tuple elts k2 p2) (gPairs X.K i j k))
    (he : ∀ (s : Shared) (H : Hp) (C : Addr) (cl : List (Str × Addr)) (fp : List Addr), DE (X.blk s H scope (compEnvC scope cl C X.env) fp) elt te)
    (ok : blkC X.N X.env.scope scope own = true) (hj : i ∈ own.map (·.2) ∧ j ∈ own.map (·.2) ∧ k ∈ own.map (·.2) := by decide) (hs : ∀ x, foldedSetIterable (.Call (.Attribute e "items" apos) [] [] cpos) X.env x = pure x := by intro _; rfl)
    (hbase : attributeBase e "items" X.env (eval e X.env) = eval e X.env := by rfl) (hline : (apos.endLine == cpos.line) = true := by rfl) :
    DE X (.ListComp elt [⟨.Tuple elts k2 p2, .Call (.Attribute e "items" apos) [] [] cpos, [], 0⟩] scope pos) (dCompT td i j k te (own.map (·.2))) :=
  PE.weak (pe_lc (g := gPairs X.K i j k) (tt := tYes) (te := liftE X.K te) hc hN (pi_pairs hd hbase hline) (blkOk_by ok) hg (fun _ _ _ _ _ => pts_nil) he hs) fun σ H Q h => lift_pairs hj h
end

/-! ### a def that gives a list away -/
abbrev PFO := List PV → (List Dt → Prop) → Prop
def liftFO (K : Fg) (F : PFO) : Sp := fun vs H Q _ => ∃ (r : Option Addr) (G : Hp) (as : List PV) (P : List Dt → Prop), Start K r G H ∧ Args K r G vs as ∧ F as P ∧
  ∀ a ds ws G' H', P ds → Grow K r G H G' H' → H' a = some (.lst ws) → Reps K G' ws ds → G' a = none → H a = none → r ≠ some a → Q (.ref a) H'
abbrev PTSO := (List Dt → Prop) → List PV → Prop
def liftSO (K : Fg) (t : PTSO) : TS := fun Dn σ H => ∃ (r0 : Option Addr) (G0 H0 : Hp) (r : Option Addr) (G : Hp) (ρ : List PV) (P : List Dt → Prop), EnvS K r0 G0 H0 r G H σ ρ ∧ t P ρ ∧
  ∀ a ds ws G H, P ds → Grow K r0 G0 H0 G H → H a = some (.lst ws) → Reps K G ws ds → G a = none → H0 a = none → r0 ≠ some a → Dn.rt (.ref a) H
def DSsO (X : Cx) (st : List Stmt) (t : PTSO) : Prop := PSs X st (liftSO X.K t)
def sSeqO (t : PTS) (u : PTSO) : PTSO := fun P ρ => t { nx := u P, rt := fun _ => False } ρ
def sRetO (i : Nat) : PTSO := fun P ρ => ∃ xs, ρ[i]? = some (.own (.list xs)) ∧ P xs
section
variable {X : Cx} {pos p p0 p1 p2 pos' : Pos} {e : Expr} {es : List Expr}
theorem dso_cons {st : Stmt} {rest : List Stmt} {t : PTS} {u : PTSO} (h1 : DS X st t) (h2 : DSsO X rest u) : DSsO X (st :: rest) (sSeqO t u) := PSs.weak (pss_cons h1 h2) fun Dn σ H ⟨r0, G0, H0, r, G, ρ, P, E, p, q⟩ =>
  ⟨r0, G0, H0, r, G, ρ, _, E, p, ⟨fun r' σ' ρ' G' H' p' E' => ⟨r0, G0, H0, r', G', ρ', P, E', p', q⟩, fun _ _ _ _ _ z => z.elim, fun _ _ _ _ _ z => z.elim, fun _ _ _ _ z => z.elim⟩⟩
theorem dso_ret (i : Nat) {x : Str} (hN : X.N[i]? = some x := by rfl) (hv : Vis X.env.scope x := by first | exact Or.inl rfl | exact Or.inr (Or.inl rfl) | exact Or.inr (Or.inr rfl)) (hd : (x == ("__debug__" : Str)) = false := by decide)
    (hcd : (x == ("__classdict__" : Str)) = false := by decide) : DSsO X [.Return (some (.Name x p)) pos] (sRetO i) := PSs.weak (pss_one (ps_ret (pe_var hN hv hd hcd))) fun Dn σ H ⟨r0, G0, H0, r, G, ρ, P, E, ⟨xs, e, p⟩, q⟩ => by
    obtain ⟨a, vs, h1, h2, h3⟩ := own_in E.env e
    obtain ⟨a', h1', ga, ra, _⟩ := E.env.getO e
    rw [h1] at h1'
    cases h1'
    have ya := E.yg i a _ e h1
    refine ⟨.ref a, h1, q a xs vs G H p E.gr h2 h3 ga ya fun z => ?_⟩
    obtain ⟨o, ho⟩ := E.rh a z
    rw [ya] at ho; cases ho
theorem fd_okO {P : Program} {w : World} {K : Fg} {mg : Str → Option Value} {base : Heap} {x qual : Str} {st : Stmt} {f : Addr} {fd : FuncData} {N ps : List Str} {k : Nat} (F : PFO) (Fu : Fun K x qual st f fd) (S : FnScope N ps (defScope st)) (len : ∀ as P, F as P → as.length = ps.length)
    (body : ∀ (cdv : Value) (A : Around) (outer : List Env) (s : Shared) (H : Hp) (E : XK), Room k (A.deeper (envOfC qual (defScope st) s.heap.objs.size f cdv)) →
      ∃ t, DSsO (cxOf CX0 P w K mg base N qual (defScope st) f cdv A outer s H E).nox (defBody st) t ∧ ∀ as Q, F as Q → t Q (startP N as)) : FnOk P w K mg base CX0 (k + 1) f fd ps (liftFO K F) := by
  refine Fu.ok S (fun vs H Q E ⟨r, G, as, P, _, A, p, _⟩ => (Paired.length A).trans (len as P p)) fun cdv A outer s H vs Q E hr ⟨r, G, as, P, S1, R, p, q⟩ => ?_
  obtain ⟨t, ht, hp⟩ := body cdv A outer s H E hr
  exact ⟨liftSO K t, ht, r, G, H, r, G, startP N as, _, env_start S1 R, hp as P p, fun a ds ws G' H' p' W h1 h2 h3 h4 h5 => q a ds ws G' H' p' W h1 h2 h3 h4 h5⟩
/-- a list that came from a call becomes one's own -/
theorem EnvS.takeL {K : Fg} {r0 r : Option Addr} {G0 H0 G H G' H' : Hp} {σ : L2.St} {ρ : List PV} {a : Addr} {x : Dt} {i : Nat} (E : EnvS K r0 G0 H0 r G H σ ρ) (W : Grow K r G H G' H') (ho : OwnR K G' H' a x) (hn : H a = none) (ga : G' a = none) (ra : r ≠ some a) (hi : i < ρ.length) :
    EnvS K r0 G0 H0 r G' H' (σ.set i (some (.ref a))) (ρ.set i (.own x)) := by
  have E1 := E.grow W
  have old : ∀ {j : Nat} {z : Dt} {c : Addr}, ρ[j]? = some (.own z) → σ[j]? = some (some (.ref c)) → c ≠ a := fun {j z c} e1 e2 => by
    obtain ⟨b, h1, _, _, h2⟩ := E.env.getO e1
    rw [e2] at h1
    cases h1
    obtain ⟨o, h3⟩ := h2.some
    exact ne_of_none h3 hn
  have mine : ∀ {j : Nat} {c : Addr}, j = i → (σ.set i (some (V.ref a)))[j]? = some (some (.ref c)) → c = a := fun {j c} hj e => by
    subst hj
    rw [List.getElem?_set_self (by rw [E.env.len]; exact hi)] at e
    cases e; rfl
  refine ⟨⟨E1.env.st, by simp [E.env.len], fun j q e => ?_, fun j k c x' y' e1 e2 e3 e4 => ?_, fun j k C c fs e => ?_⟩, E1.gr, E.rr, E.rh, fun j c y e1 e2 => ?_, fun j C c fs e => E.yo j C c fs (set_not_obj e fun _ _ _ => by simp).2⟩
  · by_cases hj : j = i
    · subst hj
      rw [List.getElem?_set_self hi] at e
      cases e
      exact ⟨_, List.getElem?_set_self (by rw [E.env.len]; exact hi), a, rfl, ga, ra, ho⟩
    · rw [List.getElem?_set_ne (Ne.symm hj)] at e ⊢
      exact E1.env.slot j q e
  · rcases get_set_own e1 with ⟨h1, _⟩ | ⟨h1, f1⟩
    · rcases get_set_own e2 with ⟨h2, _⟩ | ⟨h2, f2⟩
      · rw [h1, h2]
      · rw [List.getElem?_set_ne (Ne.symm h2)] at e4
        exact absurd (mine h1 e3) (old f2 e4)
    · rcases get_set_own e2 with ⟨h2, _⟩ | ⟨h2, f2⟩
      · rw [List.getElem?_set_ne (Ne.symm h1)] at e3
        exact absurd (mine h2 e4) (old f1 e3)
      · rw [List.getElem?_set_ne (Ne.symm h1)] at e3
        rw [List.getElem?_set_ne (Ne.symm h2)] at e4
        exact E.env.dist j k c x' y' f1 f2 e3 e4
  · obtain ⟨j1, j2⟩ := set_not_obj e fun _ _ _ => by simp
    refine ⟨fun y ey b hb => ?_, fun D d gs eg => (E.env.apart j k C c fs j2).2 D d gs (set_not_obj eg fun _ _ _ => by simp).2⟩
    rcases get_set_own ey with ⟨h1, _⟩ | ⟨h1, f1⟩
    · intro z
      have ea := mine h1 z
      subst ea
      obtain ⟨o, _, _, q, _⟩ := E.env.slot j _ j2
      obtain ⟨u, hu⟩ := q.there b hb
      rw [hn] at hu; cases hu
    · rw [List.getElem?_set_ne (Ne.symm h1)]
      exact (E.env.apart j k C c fs j2).1 y f1 b hb
  · rcases get_set_own e1 with ⟨h1, _⟩ | ⟨h1, f1⟩
    · have ec := mine h1 e2
      subst ec
      cases q : H0 c with
      | none => rfl
      | some u =>
        obtain ⟨u', hu⟩ := E.gr.there q
        rw [hn] at hu; cases hu
    · rw [List.getElem?_set_ne (Ne.symm h1)] at e2
      exact E.yg j c y f1 e2
/-- x = f(..), the list that f gives away -/
def sOwnF (i : Nat) (F : PFO) (ta : PTAs) : PTS := fun P ρ => i < ρ.length ∧ ta ρ fun as => F as fun ds => P.nx (ρ.set i (.own (.list ds)))
theorem ds_ownF (i : Nat) {x y : Str} {k : Nat} {f : Addr} {fd : FuncData} {ps : List Str} {F : PFO} {ta : PTAs} {st : Stmt} {j : Nat} (D : Df X.K X.mg y st ps f fd) (Fk : FnOk X.prog X.w X.K X.mg X.base CX0 k f fd ps (liftFO X.K F)) (hr : Room j X.A) (hN : X.N.Nodup) (ha : DAs X (e :: es) ta) (hj : k ≤ j := by decide)
    (hi : X.N[i]? = some x := by rfl) (hx : Loc X.env.scope x := by first | exact Or.inl rfl | exact Or.inr rfl) (hs : swapsWith (.Call (.Name y p) (e :: es) [] p2) (some (.Name x pos')) pos.line X.env = pure false := by rfl)
    (hf : X.fn x = true ∨ X.env.scope.names.lookup x = some .local := by first | exact .inl rfl | exact .inr rfl) (hg : Gl X y := by rfl)
    (hdb : (y == ("__debug__" : Str)) = false := by decide) (he : starEach (e :: es) X.env = (false, eval e X.env) :: starEach es X.env := by rfl) (hpl : (backTo p2 (starEach es X.env)).any (·.1) = false := by rfl) :
    DS X (.Assign [.Name x pos'] (.Call (.Name y p) (e :: es) [] p2) pos) (sOwnF i F ta) :=
  PS.weak (ps_set hN hi hx (pe_call Fk (hr.mono hj) hg D.gl D.fn.kp D.bd .nil pass0 ha hdb he hpl) hs hf) fun Dn σ H ⟨r0, G0, H0, r, G, ρ, P, E, ⟨li, p⟩, q⟩ => ⟨r, G, ρ, _, E.env, p, fun us as G1 H1 p1 W1 R1 => by
    show liftFO X.K F (us ++ []) H1 _ E0
    rw [List.append_nil]
    have E1 := E.grow W1
    exact ⟨r, G1, as, _, E1.env.st, R1, p1, fun a ds ws G' H' p' W h1 h2 h3 h4 h5 => q.nx _ _ _ _ _ p' (E1.takeL W (.lst h1 h2) h4 h3 h5 li)⟩⟩
end
end PD
/-! PDg: lists of one's own given up, pairs of stores, the size of a set. -/
namespace PD
open PySem PySem.Spec PyProof.Rows L2

def isOwnL : PV → Bool
  | .own (.list _) => true
  | .own _ => false
  | _ => true
theorem known_nil (H : Hp) : Known [] H H := ⟨fun _ _ => rfl, fun b h => by cases h⟩
section
variable {X : Cx} {pos p p0 p1 p2 pos' px py pt : Pos} {e : Expr} {es : List Expr}
/-- from here on the lists of one's own are data -/
def sFrz (t : PTS) : PTS := fun P ρ => ρ.all isOwnL = true ∧ t P (ρ.map frz)
theorem ds_frz {st : Stmt} {t : PTS} (h : DS X st t) : DS X st (sFrz t) := PS.weak h fun Dn σ H ⟨r0, G0, H0, r, G, ρ, P, E, ⟨ho, p⟩, q⟩ => by
  obtain ⟨G1, E1⟩ := E.freezeAll (ds := []) (fun b => ⟨fun z => absurd z (by simp), fun ⟨⟨i, x, e1, e2⟩, hd⟩ => by
    exfalso
    obtain ⟨c, h1, _, _, h2⟩ := E.env.getO e1
    rw [e2] at h1
    cases h1
    have hx : isOwnL (.own x) = true := List.all_eq_true.mp ho _ (List.mem_of_getElem? e1)
    cases h2 with
    | lst h3 h4 => rcases hd with ⟨_, h5⟩ | ⟨_, h5⟩ <;> rw [h3] at h5 <;> cases h5
    | dic => exact absurd hx (by simp [isOwnL])
    | dicT => exact absurd hx (by simp [isOwnL])⟩) (known_nil H)
  exact ⟨r0, G0, H0, r, G1, _, P, E1, p, q⟩
/-- x, y = [], e -/
def sParL (i j : Nat) (te : PT0) : PTS := fun P ρ => i < ρ.length ∧ te ρ fun y => P.nx ((ρ.set i (.own (.list []))).set j (.d y))
theorem ds_parL (i j : Nat) {x y : Str} {te : PT0} {pa1 : Pos} {kt k2 pt2} (hc : X.calm = true) (hN : X.N.Nodup) (he : DE X e te) (hi : X.N[i]? = some x := by rfl) (hj : X.N[j]? = some y := by rfl) (hij : i ≠ j := by decide)
    (hx : X.env.scope.names.lookup x = some .local := by rfl) (hy : X.env.scope.names.lookup y = some .local := by rfl)
    (hw : swappedStores [.Tuple [.Name x px, .Name y py] kt pt] (.Tuple [.List [] pa1, e] k2 pt2) X.env = pure (some [x, y]) := by rfl)
    (hs : swapsWithSole [.Tuple [.Name x px, .Name y py] kt pt] (.Tuple [.List [] pa1, e] k2 pt2) pos.line X.env = pure false := by rfl)
    (h1 : starEach [.List [] pa1, e] X.env = (false, eval (.List [] pa1) X.env) :: starEach [e] X.env := by rfl)
    (h2 : starEach [e] X.env = (false, eval e X.env) :: starEach [] X.env := by rfl) :
    DS X (.Assign [.Tuple [.Name x px, .Name y py] kt pt] (.Tuple [.List [] pa1, e] k2 pt2) pos) (sParL i j te) :=
  PS.weak (ps_par hc hN hi hj hij hx hy (pa_cons (pe_lst pa_nil) (pa_cons he pa_nil h2) h1) hw hs) fun Dn σ H ⟨r0, G0, H0, r, G, ρ, P, E, ⟨li, p⟩, q⟩ =>
    ⟨Nat.zero_le _, fun c hc => by
      have W := E.env.st.lay0 (o := .lst []) hc
      have E1 := E.grow W
      refine ⟨r, G, ρ, _, E1.env, p, fun v d G1 H1 p1 W1 R1 => ⟨_, _, rfl, ?_⟩⟩
      have rl := E.env.st.rowNe hc
      have h3 : H1 c = some (.lst []) := W1.h c _ rl upd_same
      have gc : G1 c = none := W1.y c _ upd_same (E.env.st.gh.free hc)
      have E2 := E.takeL (W.trans W1) (.lst h3 .nil) hc gc rl li
      exact q.nx _ _ _ _ _ p1 (E2.setP (i := j) (p := .d d) ⟨_, rfl, R1⟩ fun _ z => nomatch z)⟩
/-- x, y = {}, e: names that are cells, x by pairs -/
def sParT (i j : Nat) (te : PT0) : PTS := fun P ρ => i < ρ.length ∧ te ρ fun y => P.nx ((ρ.set i (.own (kt []))).set j (.d y))
theorem ds_parT (i j : Nat) {x y : Str} {te : PT0} {pa1 : Pos} {kt k2 pt2} (hc : X.calm = true) (hN : X.N.Nodup) (he : DE X e te) (hi : X.N[i]? = some x := by rfl) (hj : X.N[j]? = some y := by rfl)
    (hx : Loc X.env.scope x := by first | exact Or.inl rfl | exact Or.inr rfl) (hy : Loc X.env.scope y := by first | exact Or.inl rfl | exact Or.inr rfl)
    (fx : X.fn x = true ∨ X.env.scope.names.lookup x = some .local := by first | exact .inl rfl | exact .inr rfl) (fy : X.fn y = true ∨ X.env.scope.names.lookup y = some .local := by first | exact .inl rfl | exact .inr rfl)
    (hw : swappedStores [.Tuple [.Name x px, .Name y py] kt pt] (.Tuple [.Dict [] [] pa1, e] k2 pt2) X.env = pure none := by rfl)
    (hs : swapsWithSole [.Tuple [.Name x px, .Name y py] kt pt] (.Tuple [.Dict [] [] pa1, e] k2 pt2) pos.line X.env = pure false := by rfl)
    (h0 : (assignEach [.Tuple [.Name x px, .Name y py] kt pt] X.env).map (·.2) = [assign (.Tuple [.Name x px, .Name y py] kt pt) X.env] := by rfl)
    (h1 : starEach [.Dict [] [] pa1, e] X.env = (false, eval (.Dict [] [] pa1) X.env) :: starEach [e] X.env := by rfl) (h2 : starEach [e] X.env = (false, eval e X.env) :: starEach [] X.env := by rfl)
    (a1 : (assignEach [.Name x px, .Name y py] X.env).map (·.2) = assign (.Name x px) X.env :: (assignEach [.Name y py] X.env).map (·.2) := by rfl) (a2 : (assignEach [.Name y py] X.env).map (·.2) = assign (.Name y py) X.env :: (assignEach [] X.env).map (·.2) := by rfl)
    (a3 : (assignEach [.Name x px, .Name y py] X.env).length = 2 := by rfl) (a4 : (assignEach [.Name x px, .Name y py] X.env).findIdx? (·.1) = none := by rfl) :
    DS X (.Assign [.Tuple [.Name x px, .Name y py] kt pt] (.Tuple [.Dict [] [] pa1, e] k2 pt2) pos) (sParT i j te) :=
  PS.weak (ps_asg (pe_tup (pa_cons pe_dnewT (pa_cons he pa_nil h2) h1)) (pg_tup hc (pgs_cons (pg_name hN hi hx fx) (pgs_cons (pg_name hN hj hy fy) pgs_nil a2) a1) a3 a4) hs hw h0) fun Dn σ H ⟨r0, G0, H0, r, G, ρ, P, E, ⟨li, p⟩, q⟩ =>
    fun c hc => by
      have W := E.env.st.lay0 (o := .dT []) hc
      have E1 := E.grow W
      refine ⟨r, G, ρ, _, E1.env, p, fun v d G1 H1 p1 W1 R1 => ⟨by show 2 ≤ sizeLine; decide, fun f hf => ⟨f, _, rfl, .inl (.inl upd_same), rfl, _, _, rfl, _, _, rfl, rfl, ?_⟩⟩⟩
      have rl := E.env.st.rowNe hc
      have h3 : H1 c = some (.dT []) := W1.h c _ rl upd_same
      have gc : G1 c = none := W1.y c _ upd_same (E.env.st.gh.free hc)
      have W2 := (W1.start (W.start E.env.st)).lay0 (o := .tup [.ref c, v]) hf
      have E2 := E.takeL ((W.trans W1).trans W2) (.dicT (l := ktL []) ((upd_ne (ne_of_none h3 hf)).trans h3) (kt_rep [])) hc gc rl li
      exact q.nx _ _ _ _ _ p1 (E2.setP (i := j) (p := .d d) ⟨_, rfl, R1⟩ fun _ z => nomatch z)
end

/-! ### len(set(..)) -/
theorem perm_of_nodup {α : Type} [DecidableEq α] : ∀ {l m : List α}, l.Nodup → m.Nodup → (∀ x, x ∈ l ↔ x ∈ m) → l.length = m.length
  | l, m, h1, h2, h => by
    have p : l.Perm m := (List.perm_ext_iff_of_nodup h1 h2).mpr h
    exact p.length_eq
def fLenSetP : FC := fun ds P => ∃ ks : List (Int × Int), ds = [.list (ks.map pairI)] ∧ ks.Nodup ∧ ks.length < 64 ∧ P (.int ks.length)
def fLenSetI : FC := fun ds P => ∃ ns : List Int, ds = [.tuple (ns.map .int)] ∧ ns.Nodup ∧ ns.length ≤ 1000 ∧ P (.int ns.length)
def dLenSet (f : FC) (t : PTA) : PT0 := fun ρ P => t ρ fun ds => f ds P
def row2 (k : Int × Int) : List Int := [k.1, k.2]
theorem row2_inj {a b : Int × Int} (h : row2 a = row2 b) : a = b := by
  unfold row2 at h
  have h1 := (List.cons.inj h).1
  have h2 := (List.cons.inj (List.cons.inj h).2).1
  exact Prod.ext h1 h2
section
variable {X : Cx} {pos p p0 p1 p2 : Pos} {a : Expr}
theorem de_lenSetP {t : PTA} (hc : X.calm = true) (hu : X.A.units + 64 < cLine) (hm : X.mg "len" = none) (hm2 : X.mg "set" = none) (ha : DA X [a] t) (hg : Gl X "len" := by rfl) (hg2 : Gl X "set" := by rfl)
    (na : starEach [a] X.env = [(false, eval a X.env)] := by rfl) : DE X (.Call (.Name "len" p) [.Call (.Name "set" p2) [a] [] p1] [] pos) (dLenSet fLenSetP t) := by
  refine ⟨fun pins s σ H Q I ⟨r, G, ρ, P, E, hp, q⟩ => ?_⟩
  refine Call_ (ld_blt I hg hm PySem.boot_len ?_)
  refine PyProof.Rows.callWith_builtin1 (PyProof.Rows.args_cons ?_ rfl) rfl rfl
  refine Call_ (ld_blt I hg2 hm2 PyProof.Rows.boot_set ?_)
  refine PyProof.Rows.callWith_type1 (thn (ha.run p1 pins s σ H (fun vs H' => ∃ ds G', fLenSetP ds P ∧ Grow X.K r G H G' H' ∧ Reps X.K G' vs ds) I ⟨r, G, ρ, _, E, hp, fun vs ds G' H' p' W R => ⟨ds, G', p', W, R⟩⟩) fun us s1 ⟨vs, H1, I1, rv, ds, G1, ⟨ks, e, nd, few, p'⟩, W, R⟩ => ?_) na rfl
  subst e
  have hgrow := W
  obtain ⟨l, ws, ev, hl, hw⟩ : ∃ l ws, vs = [.ref l] ∧ G1 l = some (.lst ws) ∧ Reps X.K G1 ws (ks.map pairI) := by
    cases R with
    | cons h1 h2 =>
      cases h2
      cases h1 with
      | lst e r1 => exact ⟨_, _, rfl, e, r1⟩
  subst ev
  rw [Vals.ref1 rv]
  have hrows : ks.map pairI = (ks.map row2).map rowI := by rw [List.map_map]; rfl
  rw [hrows] at hw
  obtain ⟨bs, rfl, hp2⟩ := reps_rows hw
  have hlen : bs.length = ks.length := by have := Paired.length hp2; simpa using this
  obtain ⟨its, rr, pl, hz⟩ := I1.list (SqL.of (W.gh _ _ hl))
  have eits := refs_out rr
  subst eits
  let L0 : List (Addr × List Int) := bs.zip (ks.map row2)
  have m1 : L0.map (·.1) = bs := List.map_fst_zip (by rw [List.length_map, hlen]; exact Nat.le_refl _)
  have m2 : L0.map (·.2) = ks.map row2 := List.map_snd_zip (by rw [List.length_map, hlen]; exact Nat.le_refl _)
  have hk : ∀ z ∈ L0, SqT X.K H1 z.1 (z.2.map V.int) := fun z hz => by
    obtain ⟨j, hj⟩ := List.mem_iff_getElem?.mp hz
    obtain ⟨j1, j2⟩ := List.getElem?_zip_eq_some.mp hj
    obtain ⟨y, hy, hR⟩ := paired_get hp2 j1
    rw [j2] at hy
    cases hy
    exact .inl (.inl (W.gh _ _ hR))
  refine call_set_tups (P := X.prog) (w := X.w) L0 (I1.ok.hd hc) pl.isList (by
    show bs.map Value.ref = L0.map fun z => Value.ref z.1
    have e0 : (L0.map (·.1)).map Value.ref = bs.map Value.ref := by rw [m1]
    rw [List.map_map] at e0
    exact e0.symm) (fun z hz => I1.isT (hk z hz)) (by show L0.length < 64; rw [← List.length_map (f := (·.1)), m1, hlen]; exact few) (by omega) fun h' tk L es ep t R1 g k => ?_
  refine PyProof.Rows.args_nil ?_
  have I2 : Inv X pins σ H1 { s1 with heap := h', toks := tk } := I1.kept k
  have hsz : L.length = ks.length := by
    have e1 : (L.map (·.2)).length = (ks.map row2).length := by
      refine perm_of_nodup R1.nd ?_ fun y => ⟨fun hy => ?_, fun hy => ?_⟩
      · exact List.Pairwise.map _ (fun a b hab e => hab (row2_inj e)) nd
      · obtain ⟨z, hz, rfl⟩ := List.mem_map.mp hy
        have := List.mem_of_mem_take (g.sub z hz)
        rw [← m2]
        exact List.mem_map.mpr ⟨z, this, rfl⟩
      · rw [← m2] at hy
        obtain ⟨z, hz, rfl⟩ := List.mem_map.mp hy
        exact g.all z (by rw [List.take_length]; exact hz)
    simpa using e1
  obtain ⟨o, ho, hex, hd⟩ := R1.ob
  refine call_len_set ho hex hd (SetTR.fits (s := { s1 with heap := h', toks := tk }) R1) ?_ ?_
  · rw [SetTR.size (s := { s1 with heap := h', toks := tk }) R1]; omega
  · exact ⟨.int (ks.length : Nat), H1, I2.tok _, ⟨_, by rw [SetTR.size (s := { s1 with heap := h', toks := tk }) R1, hsz]⟩, q _ _ _ _ p' hgrow (.int _)⟩
theorem de_lenSetI {t : PTA} (hc : X.calm = true) (hm : X.mg "len" = none) (hm2 : X.mg "set" = none) (ha : DA X [a] t) (hg : Gl X "len" := by rfl) (hg2 : Gl X "set" := by rfl)
    (na : starEach [a] X.env = [(false, eval a X.env)] := by rfl) : DE X (.Call (.Name "len" p) [.Call (.Name "set" p2) [a] [] p1] [] pos) (dLenSet fLenSetI t) := by
  refine ⟨fun pins s σ H Q I ⟨r, G, ρ, P, E, hp, q⟩ => ?_⟩
  refine Call_ (ld_blt I hg hm PySem.boot_len ?_)
  refine PyProof.Rows.callWith_builtin1 (PyProof.Rows.args_cons ?_ rfl) rfl rfl
  refine Call_ (ld_blt I hg2 hm2 PyProof.Rows.boot_set ?_)
  refine PyProof.Rows.callWith_type1 (thn (ha.run p1 pins s σ H (fun vs H' => ∃ ds G', fLenSetI ds P ∧ Grow X.K r G H G' H' ∧ Reps X.K G' vs ds) I ⟨r, G, ρ, _, E, hp, fun vs ds G' H' p' W R => ⟨ds, G', p', W, R⟩⟩) fun us s1 ⟨vs, H1, I1, rv, ds, G1, ⟨ns, e, nd, few, p'⟩, W, R⟩ => ?_) na rfl
  subst e
  obtain ⟨l, ev, hl⟩ : ∃ l, vs = [.ref l] ∧ G1 l = some (.tup (ns.map V.int)) := by
    cases R with
    | cons h1 h2 =>
      cases h2
      cases h1 with
      | tup e r1 =>
        have := r1.ints
        subst this
        exact ⟨_, rfl, e⟩
  subst ev
  rw [Vals.ref1 rv]
  obtain ⟨its, rr, pl, hz⟩ := I1.tuple (same_seqP W.gh hl)
  refine call_set_tupI ns (I1.ok.hd hc) (show s1.heap.IsTuple l its.toArray from pl) (by simpa using rr.ints) (by unfold scanBound; omega) fun h' tk c R1 hcn k => ?_
  refine PyProof.Rows.args_nil ?_
  obtain ⟨o, es, ep, t, ho, hex, hd, _, ndk, mem, _, hf, hn, _, _⟩ := R1
  have I2 : Inv X pins σ H1 { s1 with heap := h', toks := tk } := I1.kept k
  have hsz : es.size = ns.length := by
    have e1 := perm_of_nodup ndk nd fun y => by rw [← mem y]; exact decide_eq_true_iff
    rw [List.length_map, Array.length_toList] at e1
    exact e1
  refine call_len_set ho hex hd hf (by rw [hsz]; omega) ⟨.int (ns.length : Nat), H1, I2.tok _, ⟨_, by rw [hsz]⟩, q _ _ _ _ p' W (.int _)⟩
end
end PD
/-! PDh: what pairs as data tell. -/
namespace PD
open PySem PySem.Spec PyProof.Rows L2
theorem ktL_inj : ∀ {a b : List Pk}, ktL a = ktL b → a = b
  | [], [], _ => rfl
  | [], _ :: _, h => by simp [ktL] at h
  | _ :: _, [], h => by simp [ktL] at h
  | x :: a, y :: b, h => by
    unfold ktL at h
    rw [List.map_cons, List.map_cons] at h
    have h1 := Prod.mk.inj (List.cons.inj h).1
    have h2 : x = y := Prod.ext (pk_inj h1.1) (PyData.int.inj h1.2)
    rw [h2, ktL_inj (List.cons.inj h).2]
theorem kt_inj (a b : List Pk) : (kt a = kt b) = (a = b) := propext ⟨fun h => by
  unfold kt at h
  exact ktL_inj (entD_inj (List.cons.inj (PyData.dict.inj h)).2), fun h => by rw [h]⟩
theorem tup_pairI (a b : Int) (k : Int × Int) : (PyData.tuple [.int a, .int b] = pairI k) = ((a, b) = k) := propext ⟨fun h => by
  unfold pairI at h
  have h1 := PyData.tuple.inj h
  have h2 := (List.cons.inj h1).1
  have h3 := (List.cons.inj (List.cons.inj h1).2).1
  exact Prod.ext (PyData.int.inj h2) (PyData.int.inj h3), fun h => by rw [← h]; rfl⟩
theorem pairI_pairI (a k : Int × Int) : (pairI a = pairI k) = (a = k) := tup_pairI a.1 a.2 k
/-! ### what is put and got -/
def keysP (l : List Pk) : List (Int × Int) := l.map (·.1)
theorem getP_none {l : List Pk} {k : Int × Int} : getP l k = none ↔ k ∉ keysP l := by
  unfold getP keysP
  rw [Option.map_eq_none_iff, List.find?_eq_none]
  simp only [decide_eq_true_eq, List.mem_map, not_exists, not_and]
theorem getP_mem {l : List Pk} {k : Int × Int} {c : Int} (h : getP l k = some c) : (k, c) ∈ l := by
  unfold getP at h
  obtain ⟨e, h1, h2⟩ := Option.map_eq_some_iff.mp h
  have h3 := List.mem_of_find?_eq_some h1
  have h4 := List.find?_some h1
  rw [show (k, c) = e from Prod.ext (of_decide_eq_true h4).symm h2.symm]
  exact h3
theorem getP_cons {e : Pk} {l : List Pk} {k : Int × Int} : getP (e :: l) k = if e.1 = k then some e.2 else getP l k := by
  unfold getP
  rw [List.find?_cons]
  by_cases h : e.1 = k
  · rw [decide_eq_true h, if_pos h]; rfl
  · rw [decide_eq_false h, if_neg h]
theorem mem_getP : ∀ {l : List Pk} {k : Int × Int} {c : Int}, (keysP l).Nodup → (k, c) ∈ l → getP l k = some c
  | e :: l, k, c, nd, h => by
    unfold keysP at nd
    rw [List.map_cons, List.nodup_cons] at nd
    rw [getP_cons]
    rcases List.mem_cons.mp h with h | h
    · subst h; rw [if_pos rfl]
    · have : e.1 ≠ k := fun z => nd.1 (List.mem_map.mpr ⟨_, h, z.symm⟩)
      rw [if_neg this]
      exact mem_getP nd.2 h
theorem any_key {l : List Pk} {k : Int × Int} : (l.any fun e => decide (e.1 = k)) = true ↔ k ∈ keysP l := by
  unfold keysP
  rw [List.any_eq_true, List.mem_map]
  simp only [decide_eq_true_eq]
theorem putP_keys (l : List Pk) (k : Int × Int) (c : Int) : keysP (putP l k c) = if k ∈ keysP l then keysP l else keysP l ++ [k] := by
  unfold putP
  by_cases h : k ∈ keysP l
  · rw [if_pos (any_key.mpr h), if_pos h]
    unfold keysP
    rw [List.map_map]
    refine List.map_congr_left fun e _ => ?_
    show (if e.1 = k then (e.1, c) else e).1 = e.1
    split <;> rfl
  · rw [if_neg (fun z => h (any_key.mp z)), if_neg h]
    unfold keysP
    rw [List.map_append]
    rfl
theorem putP_nodup {l : List Pk} {k : Int × Int} {c : Int} (h : (keysP l).Nodup) : (keysP (putP l k c)).Nodup := by
  rw [putP_keys]
  split
  · exact h
  · next hk => exact List.nodup_append.mpr ⟨h, by simp, fun a ha b hb => by rw [List.mem_singleton] at hb; subst hb; exact fun z => hk (z ▸ ha)⟩
theorem putP_len (l : List Pk) (k : Int × Int) (c : Int) : (putP l k c).length ≤ l.length + 1 := by
  unfold putP
  split <;> simp
theorem putP_mem {l : List Pk} {k : Int × Int} {c : Int} {e : Pk} (nd : (keysP l).Nodup) : e ∈ putP l k c ↔ e = (k, c) ∨ (e ∈ l ∧ e.1 ≠ k) := by
  unfold putP
  by_cases h : k ∈ keysP l
  · rw [if_pos (any_key.mpr h)]
    rw [List.mem_map]
    constructor
    · rintro ⟨e0, h0, rfl⟩
      by_cases q : e0.1 = k
      · rw [if_pos q, q]; exact .inl rfl
      · rw [if_neg q]; exact .inr ⟨h0, q⟩
    · rintro (rfl | ⟨h1, h2⟩)
      · obtain ⟨e0, h0, h1⟩ := List.mem_map.mp h
        exact ⟨e0, h0, by rw [if_pos h1, h1]⟩
      · exact ⟨e, h1, if_neg h2⟩
  · rw [if_neg (fun z => h (any_key.mp z)), List.mem_append, List.mem_singleton]
    constructor
    · rintro (h1 | h1)
      · exact .inr ⟨h1, fun z => h (List.mem_map.mpr ⟨e, h1, z⟩)⟩
      · exact .inl h1
    · rintro (h1 | ⟨h1, _⟩)
      · exact .inr h1
      · exact .inl h1
/-- a dict filled from pairs whose keys differ is the list of them -/
theorem putP_fill : ∀ (es acc : List Pk), (keysP (acc ++ es)).Nodup → es.foldl (fun l e => putP l e.1 e.2) acc = acc ++ es
  | [], acc, _ => by simp
  | e :: es, acc, nd => by
    have h : e.1 ∉ keysP acc := by
      unfold keysP at nd ⊢
      rw [List.map_append, List.map_cons, List.nodup_append] at nd
      intro z
      exact nd.2.2 _ z _ (by simp) rfl
    rw [List.foldl_cons]
    have e1 : putP acc e.1 e.2 = acc ++ [e] := by
      unfold putP
      rw [if_neg fun z => h (any_key.mp z)]
    rw [e1, putP_fill es (acc ++ [e]) (by simpa using nd)]
    simp
/-! ### rows in their order -/
theorem rk_inj {M B : Int} {a b : List Int} (hl : a.length = b.length) (ha : Bm M B a) (hb : Bm M B b) (h1 : rk M B a ≤ rk M B b) (h2 : rk M B b ≤ rk M B a) : a = b := by
  induction a generalizing b with
  | nil => cases b with
    | nil => rfl
    | cons => simp at hl
  | cons x a ih => cases b with
    | nil => simp at hl
    | cons y b =>
      have hl2 : a.length = b.length := by simpa using hl
      have hl3 : (a.map (· + M)).length = (b.map (· + M)).length := by simpa using hl2
      rcases Int.lt_trichotomy x y with h | h | h
      · have : rk M B (x :: a) < rk M B (y :: b) := TS.code_lt hl3 ha.tl hb.tl (by show x + M < y + M; omega)
        omega
      · subst h
        have s1 : rk M B (x :: a) < rk M B (x :: b) ↔ rk M B a < rk M B b := TS.code_same hl3
        have s2 : rk M B (x :: b) < rk M B (x :: a) ↔ rk M B b < rk M B a := TS.code_same hl3.symm
        rw [ih hl2 ha.tl hb.tl (by have := mt s2.mpr (by omega); omega) (by have := mt s1.mpr (by omega); omega)]
      · have : rk M B (y :: b) < rk M B (x :: a) := TS.code_lt hl3.symm hb.tl ha.tl (by show y + M < x + M; omega)
        omega
def rowP3 (e : Pk) : List Int := [e.1.1, e.1.2, e.2]
theorem rowP3_inj {a b : Pk} (h : rowP3 a = rowP3 b) : a = b := by
  unfold rowP3 at h
  have h1 := (List.cons.inj h).1
  have h2 := (List.cons.inj (List.cons.inj h).2).1
  have h3 := (List.cons.inj (List.cons.inj (List.cons.inj h).2).2).1
  exact Prod.ext (Prod.ext h1 h2) h3
theorem rowI_rowP3 (e : Pk) : rowI (rowP3 e) = .tuple [.int e.1.1, .int e.1.2, .int e.2] := rfl
/-- a turned row of mapped things is the map of turned things -/
theorem perm_map {α β : Type} (f : α → β) : ∀ {l : List α} {m : List β}, m.Perm (l.map f) → ∃ l' : List α, l'.Perm l ∧ m = l'.map f := by
  intro l m h
  generalize e : l.map f = n at h
  induction h generalizing l with
  | nil => cases l with
    | nil => exact ⟨[], .refl _, rfl⟩
    | cons => simp at e
  | cons a _ ih => cases l with
    | nil => simp at e
    | cons x l =>
      rw [List.map_cons] at e
      obtain ⟨l', h1, h2⟩ := ih (List.cons.inj e).2
      exact ⟨x :: l', h1.cons _, by rw [List.map_cons, h2, (List.cons.inj e).1]⟩
  | swap a b t => cases l with
    | nil => simp at e
    | cons x l => cases l with
      | nil => simp at e
      | cons y l =>
        rw [List.map_cons, List.map_cons] at e
        have e1 := List.cons.inj e
        have e2 := List.cons.inj e1.2
        exact ⟨y :: x :: l, .swap .., by rw [List.map_cons, List.map_cons, e1.1, e2.1, e2.2]⟩
  | trans _ _ ih1 ih2 =>
    obtain ⟨l1, h1, h2⟩ := ih2 e
    obtain ⟨l2, h3, h4⟩ := ih1 h2.symm
    exact ⟨l2, h3.trans h1, h4⟩
end PD
namespace PF
open PySem L2 PD
local macro_rules | `(tactic| walk_at "pd") => `(tactic| simp only [sRet, sSeq, sIf, sNext, sNever, sAsg, sDrop, sFor, forP, sAug, sApp, sExt, sOwnL, sPar, sRow, dAndV, dOrV, dNotV, dIs, dVar, dC, dChain, dBin, dUn, fNeg, dTest, dTru, dNot, dAnd, dOr, dIf, dCall, dApp, vCons, vNil, vE, vRow, vScr, dCons, dNil, dTup, dLst, dComp, dIter, dRng1, dRng2, dZip, seqD, aName, aTup_tup, aCons, aNil, fIn0, fInt, fAdd, fOrd, fEq, fNe, fIs, fIsNot, isN, fIx_tup, fIx_lst, at0, at1, at2, at3, at_4, eqOk_int, eqv_int, eqOk_bool, eqv_bool, eqOk_str, eqv_str, eqOk_non, eqv_non, eqOk_nil, eqv_nil, decide_true, decide_false,  fLen, fTuple, fList, fAll, fAny, fIntC, truD, frz, startP, wipeP, dYes, dJoin, dIxO, dLenO, dSl, dPart, dNoPart, fSl,
  List.map_cons, List.map_nil, List.length_cons, List.length_nil, List.replicate, List.cons_append, List.nil_append, List.append_nil, List.getElem?_cons_zero, List.getElem?_cons_succ, List.set_cons_zero, List.set_cons_succ, Option.some.injEq, PV.d.injEq, PV.own.injEq, PV.scr.injEq, PyData.int.injEq, PyData.bool.injEq, PyData.list.injEq, PyData.tuple.injEq, PyData.str.injEq, List.cons.injEq, exists_eq_left', exists_eq_left, exists_eq', exists_eq_right', and_assoc, exists_and_left, Nat.zero_add, Nat.add_zero, Nat.reduceAdd, Nat.reduceSub, Nat.reduceLT, Nat.sub_self, ite_true, if_true, if_false, Bool.false_eq_true, ite_false, Bool.not_true, Bool.not_false, Bool.true_and, Bool.and_true, Bool.false_and, Bool.and_false, Bool.true_or, Bool.or_true, Bool.false_or, Bool.or_false, Bool.and_self, true_and, and_true])
local macro_rules | `(tactic| walk_at "pt") => `(tactic| try walk_at "pd")

/-! ### values.py -/
def isWhole (d : Dt) (lo hi : Int) : Bool := match d with
  | .int i => decide (lo ≤ i) && decide (i ≤ hi)
  | _ => false
def F_is_whole : PF := fun as P => ∃ (d : Dt) (lo hi : Int), as = [.d d, .d (.int lo), .d (.int hi)] ∧ P (.bool (isWhole d lo hi))
theorem len_is_whole : ∀ as P, F_is_whole as P → as.length = 3 := by rintro _ P ⟨_, _, _, rfl, _⟩; rfl
def isRow (d : Dt) (lo hi : Int) : Bool := match d with
  | .tuple xs => decide (lo ≤ (xs.length : Int)) && decide ((xs.length : Int) ≤ hi)
  | _ => false
def F_is_row : PF := fun as P => ∃ (d : Dt) (lo hi : Int), as = [.d d, .d (.int lo), .d (.int hi)] ∧ P (.bool (isRow d lo hi))
theorem len_is_row : ∀ as P, F_is_row as P → as.length = 3 := by rintro _ P ⟨_, _, _, rfl, _⟩; rfl
def isLetter (d : Dt) : Bool := match d with
  | .str z => decide ((z.length : Int) = 1) && (!decide (z.cps.toList < ("a" : Str).cps.toList) && !decide (("z" : Str).cps.toList < z.cps.toList))
  | _ => false
def F_is_letter : PF := fun as P => ∃ d : Dt, as = [.d d] ∧ smD d = true ∧ P (.bool (isLetter d))
theorem len_is_letter : ∀ as P, F_is_letter as P → as.length = 1 := by rintro _ P ⟨_, rfl, _⟩; rfl
def isSpan (l h : Dt) (m : Int) : Bool := match l with
  | .int a => (decide (0 ≤ a) && decide (a ≤ m)) && isWhole h a m
  | _ => false
def F_is_span : PF := fun as P => ∃ (l h : Dt) (m : Int), as = [.d l, .d h, .d (.int m)] ∧ P (.bool (isSpan l h m))
theorem len_is_span : ∀ as P, F_is_span as P → as.length = 3 := by rintro _ P ⟨_, _, _, rfl, _⟩; rfl
/-- bounds, as they come -/
def boundsD (bs : List (Int × Int)) : Dt := .list (bs.map fun b => .tuple [.int b.1, .int b.2])
def restsOk : List Dt → List (Int × Int) → Bool
  | x :: xs, b :: bs => isWhole x b.1 b.2 && restsOk xs bs
  | _, _ => true
def areRests (d : Dt) (bs : List (Int × Int)) : Bool := match d with
  | .tuple xs => decide (xs.length = bs.length) && restsOk xs bs
  | _ => false
def F_are_rests : PF := fun as P => ∃ (d : Dt) (bs : List (Int × Int)), as = [.d d, .d (boundsD bs)] ∧ P (.bool (areRests d bs))
theorem len_are_rests : ∀ as P, F_are_rests as P → as.length = 2 := by rintro _ P ⟨_, _, rfl, _⟩; rfl

/-! ### plans -/
def elems : Dt → List Dt
  | .tuple xs => xs
  | .list xs => xs
  | _ => []
def intOf : Dt → Int
  | .int i => i
  | _ => 0
def isWrite (d : Dt) (cells inks : Int) : Bool := match d with
  | .tuple [a, b, c, l, h] => isWhole a 0 (cells - 1) && isLetter b && isWhole c 0 (inks - 1) && isSpan l h 50
  | _ => false
def F_is_write : PF := fun as P => ∃ (d : Dt) (c n : Int), as = [.d d, .d (.int c), .d (.int n)] ∧ smD d = true ∧ P (.bool (isWrite d c n))
theorem len_is_write : ∀ as P, F_is_write as P → as.length = 3 := by rintro _ P ⟨_, _, _, rfl, _⟩; rfl
def isPlan (d : Dt) : Bool := match d with
  | .tuple [c, s, w] => isWhole c 1 4 && isRow s 1 4 && isRow w 0 8 && (elems s).all (fun x => isWhole x 1 50) && (elems w).all fun x => isWrite x (intOf c) (elems s).length
  | _ => false
def F_is_plan : PF := fun as P => ∃ d : Dt, as = [.d d] ∧ smD d = true ∧ P (.bool (isPlan d))
theorem len_is_plan : ∀ as P, F_is_plan as P → as.length = 1 := by rintro _ P ⟨_, rfl, _⟩; rfl
/-- a write, a plan -/
structure Wr where
  cell : Int
  sign : Str
  ink : Int
  low : Int
  high : Int
def Wr.d (w : Wr) : Dt := .tuple [.int w.cell, .str w.sign, .int w.ink, .int w.low, .int w.high]
structure Plan where
  cells : Int
  stays : List Int
  writes : List Wr
def Plan.d (p : Plan) : Dt := .tuple [.int p.cells, .tuple (p.stays.map .int), .tuple (p.writes.map Wr.d)]
theorem wr_ix0 {w : Wr} {P : Dt → Prop} : fIx w.d (.int 0) P = P (.int w.cell) := by simp [Wr.d, fIx_tup, at0]
theorem wr_ix1 {w : Wr} {P : Dt → Prop} : fIx w.d (.int 1) P = P (.str w.sign) := by simp [Wr.d, fIx_tup, at1]
theorem wr_ix2 {w : Wr} {P : Dt → Prop} : fIx w.d (.int 2) P = P (.int w.ink) := by simp [Wr.d, fIx_tup, at2]
theorem wr_ix3 {w : Wr} {P : Dt → Prop} : fIx w.d (.int 3) P = P (.int w.low) := by simp [Wr.d, fIx_tup, at3]
theorem wr_ix4 {w : Wr} {P : Dt → Prop} : fIx w.d (.int 4) P = P (.int w.high) := by simp [Wr.d, fIx_tup, at_4]
theorem pl_ix0 {p : Plan} {P : Dt → Prop} : fIx p.d (.int 0) P = P (.int p.cells) := by simp [Plan.d, fIx_tup, at0]
theorem pl_ix1 {p : Plan} {P : Dt → Prop} : fIx p.d (.int 1) P = P (.tuple (p.stays.map .int)) := by simp [Plan.d, fIx_tup, at1]
theorem pl_ix2 {p : Plan} {P : Dt → Prop} : fIx p.d (.int 2) P = P (.tuple (p.writes.map Wr.d)) := by simp [Plan.d, fIx_tup, at2]
theorem pl_tup {p : Plan} {t : PTGs} {ρ : List PV} {P : List PV → Prop} : aTup 3 t p.d ρ P = t [.int p.cells, .tuple (p.stays.map .int), .tuple (p.writes.map Wr.d)] ρ P := by simp [Plan.d, aTup_tup]
local macro_rules | `(tactic| walk_at "pp") => `(tactic| (simp only [wr_ix0, wr_ix1, wr_ix2, wr_ix3, wr_ix4, pl_ix0, pl_ix1, pl_ix2, pl_tup] <;> walk_at "pt"))
def Plan.bounds (p : Plan) : List (Int × Int) := p.writes.map fun w => (w.low, w.high)
def F_is_pace : PF := fun as P => ∃ (p : Plan) (d : Dt), as = [.d p.d, .d d] ∧ P (.bool (areRests d p.bounds))
theorem len_is_pace : ∀ as P, F_is_pace as P → as.length = 2 := by rintro _ P ⟨_, _, rfl, _⟩; rfl
def F_rest_bounds : PF := fun as P => ∃ p : Plan, as = [.d p.d] ∧ P (boundsD p.bounds)
theorem len_rest_bounds : ∀ as P, F_rest_bounds as P → as.length = 1 := by rintro _ P ⟨_, rfl, _⟩; rfl
def F_check_plan : PF := fun as P => ∃ d : Dt, as = [.d d] ∧ smD d = true ∧ isPlan d = true ∧ P .none
theorem len_check_plan : ∀ as P, F_check_plan as P → as.length = 1 := by rintro _ P ⟨_, rfl, _⟩; rfl
def F_check_pace : PF := fun as P => ∃ (p : Plan) (d : Dt), as = [.d p.d, .d d] ∧ areRests d p.bounds = true ∧ P .none
theorem len_check_pace : ∀ as P, F_check_pace as P → as.length = 2 := by rintro _ P ⟨_, _, rfl, _⟩; rfl
def F_check_cell : PF := fun as P => ∃ (p : Plan) (d : Dt), as = [.d p.d, .d d] ∧ isWhole d 0 (p.cells - 1) = true ∧ P .none
theorem len_check_cell : ∀ as P, F_check_cell as P → as.length = 2 := by rintro _ P ⟨_, _, rfl, _⟩; rfl
def F_check_tick : PF := fun as P => ∃ (d : Dt) (m : Int), as = [.d d, .d (.int m)] ∧ isWhole d 0 m = true ∧ P .none
theorem len_check_tick : ∀ as P, F_check_tick as P → as.length = 2 := by rintro _ P ⟨_, _, rfl, _⟩; rfl
def sums (s : Int) : List Int → List Int
  | [] => []
  | r :: rs => (s + r) :: sums (s + r) rs
theorem sums_length (s : Int) : ∀ rs : List Int, (sums s rs).length = rs.length
  | [] => rfl
  | r :: rs => by simp [sums, sums_length (s + r) rs]
def F_summed : PF := fun as P => ∃ (s : Int) (rs : List Int) (d : Dt), as = [.d (.int s), .d d] ∧ (d = .tuple (rs.map .int) ∨ d = .list (rs.map .int)) ∧ rs.length ≤ 1000 ∧ P (.tuple ((sums s rs).map .int))
theorem len_summed : ∀ as P, F_summed as P → as.length = 2 := by rintro _ P ⟨_, _, _, rfl, _⟩; rfl
/-- what is seen at a cell at a tick, from a sign on -/
def seenGo (stays : List Int) (cell tick : Int) : List Int → List Wr → Str → Str
  | t :: ts, w :: ws, z => seenGo stays cell tick ts ws (if w.cell = cell ∧ t ≤ tick ∧ tick < t + stays.getD w.ink.toNat 0 then w.sign else z)
  | _, _, z => z
def seenAt (p : Plan) (ts : List Int) (cell tick : Int) : Str := seenGo p.stays cell tick ts p.writes "."
def Plan.inks (p : Plan) : Prop := ∀ w ∈ p.writes, 0 ≤ w.ink ∧ w.ink < (p.stays.length : Int)
def F_sign_at : PF := fun as P => ∃ (p : Plan) (ts : List Int) (c t : Int), as = [.d p.d, .d (.tuple (ts.map .int)), .d (.int c), .d (.int t)] ∧ p.inks ∧ P (.str (seenAt p ts c t))
theorem len_sign_at : ∀ as P, F_sign_at as P → as.length = 4 := by rintro _ P ⟨_, _, _, _, rfl, _⟩; rfl
/-- a plan that keeps the bounds; a pace of it -/
structure Plan.ok (p : Plan) : Prop where
  d : isPlan p.d = true
  sm : smD p.d = true
  inks : p.inks
  cells : 1 ≤ p.cells ∧ p.cells ≤ 4
  many : p.writes.length ≤ 8
  one : ∀ w ∈ p.writes, w.sign.length = 1
def pacesD (rs : List Int) : Dt := .tuple (rs.map .int)
def F_ticks : PF := fun as P => ∃ (p : Plan) (rs : List Int), as = [.d p.d, .d (pacesD rs)] ∧ p.ok ∧ areRests (pacesD rs) p.bounds = true ∧ P (.tuple ((sums 0 rs).map .int))
theorem len_ticks : ∀ as P, F_ticks as P → as.length = 2 := by rintro _ P ⟨_, _, rfl, _⟩; rfl
def F_seen : PF := fun as P => ∃ (p : Plan) (rs : List Int) (c t : Int), as = [.d p.d, .d (pacesD rs), .d (.int c), .d (.int t)] ∧ p.ok ∧ areRests (pacesD rs) p.bounds = true ∧ (0 ≤ c ∧ c < p.cells) ∧ (0 ≤ t ∧ t ≤ 1000) ∧ P (.str (seenAt p (sums 0 rs) c t))
theorem len_seen : ∀ as P, F_seen as P → as.length = 4 := by rintro _ P ⟨_, _, _, _, rfl, _⟩; rfl
def upTo (n : Int) : List Int := (List.range n.toNat).map fun (i : Nat) => (i : Int)
def boardOf (p : Plan) (ts : List Int) (t : Int) : Str := Txt.join "" ((upTo p.cells).map fun c => seenAt p ts c t)
def F_board : PF := fun as P => ∃ (p : Plan) (rs : List Int) (t : Int), as = [.d p.d, .d (pacesD rs), .d (.int t)] ∧ p.ok ∧ areRests (pacesD rs) p.bounds = true ∧ (0 ≤ t ∧ t ≤ 1000) ∧ P (.str (boardOf p (sums 0 rs) t))
theorem len_board : ∀ as P, F_board as P → as.length = 3 := by rintro _ P ⟨_, _, _, rfl, _⟩; rfl
def storyOf (p : Plan) (ts : List Int) (c last : Int) : Str := Txt.join "" ((upTo (last + 1)).map fun t => seenAt p ts c t)
def F_story : PF := fun as P => ∃ (p : Plan) (rs : List Int) (c l : Int), as = [.d p.d, .d (pacesD rs), .d (.int c), .d (.int l)] ∧ p.ok ∧ areRests (pacesD rs) p.bounds = true ∧ (0 ≤ c ∧ c < p.cells) ∧ (0 ≤ l ∧ l ≤ 200) ∧ P (.str (storyOf p (sums 0 rs) c l))
theorem len_story : ∀ as P, F_story as P → as.length = 4 := by rintro _ P ⟨_, _, _, _, rfl, _⟩; rfl
def rd_is_whole : PTS :=
  (sRet (dAndV (dIs isIntD (dVar 0)) (dAndV (dNotV (dIs isBoolD (dVar 0))) (dChain fLe fLe (dVar 1) (dVar 0) (dVar 2)))))

def rd_is_row : PTS :=
  (sRet (dAndV (dIs isTupD (dVar 0)) (dChain fLe fLe (dVar 1) (dApp fLen (dCons (dVar 0) dNil)) (dVar 2))))

def rd_is_letter : PTS :=
  (sRet (dAndV (dIs isStrD (dVar 0)) (dAndV (dBin fEq (dApp fLen (dCons (dVar 0) dNil)) (dC (.int 1))) (dChain fLe fLe (dC (.str "a")) (dVar 0) (dC (.str "z"))))))

def rd_is_span : PTS :=
  (sRet (dAndV (dCall F_is_whole (vCons (vE (dVar 0)) (vCons (vE (dC (.int 0))) (vCons (vE (dVar 2)) vNil)))) (dCall F_is_whole (vCons (vE (dVar 1)) (vCons (vE (dVar 0)) (vCons (vE (dVar 2)) vNil))))))

def rd_are_rests : PTS :=
  (sSeq (sIf (dNot (dTru (dCall F_is_row (vCons (vE (dVar 0)) (vCons (vE (dApp fLen (dCons (dVar 1) dNil))) (vCons (vE (dApp fLen (dCons (dVar 1) dNil))) vNil)))))) (sRet (dC (.bool false))) sNext)
  (sRet (dApp fAll (dCons (dComp (dZip (dCons (dVar 0) (dCons (dVar 1) dNil))) (aTup 2 (aCons (aName 2) (aCons (aTup 2 (aCons (aName 3) (aCons (aName 4) aNil))) aNil))) dYes (dCall F_is_whole (vCons (vE (dVar 2)) (vCons (vE (dVar 3)) (vCons (vE (dVar 4)) vNil)))) [2, 3, 4]) dNil))))

def rd_is_write : PTS :=
  (sSeq (sIf (dNot (dTru (dCall F_is_row (vCons (vE (dVar 0)) (vCons (vE (dC (.int 5))) (vCons (vE (dC (.int 5))) vNil)))))) (sRet (dC (.bool false))) sNext)
  (sSeq (sAsg (dVar 0) (aTup 5 (aCons (aName 3) (aCons (aName 4) (aCons (aName 5) (aCons (aName 6) (aCons (aName 7) aNil)))))))
  (sSeq (sIf (dOr (dNot (dTru (dCall F_is_whole (vCons (vE (dVar 3)) (vCons (vE (dC (.int 0))) (vCons (vE (dBin fSub (dVar 1) (dC (.int 1)))) vNil)))))) (dOr (dNot (dTru (dCall F_is_letter (vCons (vE (dVar 4)) vNil)))) (dNot (dTru (dCall F_is_whole (vCons (vE (dVar 5)) (vCons (vE (dC (.int 0))) (vCons (vE (dBin fSub (dVar 2) (dC (.int 1)))) vNil)))))))) (sRet (dC (.bool false))) sNext)
  (sRet (dCall F_is_span (vCons (vE (dVar 6)) (vCons (vE (dVar 7)) (vCons (vE (dC (.int 50))) vNil))))))))

def rd_is_plan : PTS :=
  (sSeq (sIf (dNot (dTru (dCall F_is_row (vCons (vE (dVar 0)) (vCons (vE (dC (.int 3))) (vCons (vE (dC (.int 3))) vNil)))))) (sRet (dC (.bool false))) sNext)
  (sSeq (sAsg (dVar 0) (aTup 3 (aCons (aName 1) (aCons (aName 2) (aCons (aName 3) aNil)))))
  (sSeq (sIf (dOr (dNot (dTru (dCall F_is_whole (vCons (vE (dVar 1)) (vCons (vE (dC (.int 1))) (vCons (vE (dC (.int 4))) vNil)))))) (dOr (dNot (dTru (dCall F_is_row (vCons (vE (dVar 2)) (vCons (vE (dC (.int 1))) (vCons (vE (dC (.int 4))) vNil)))))) (dNot (dTru (dCall F_is_row (vCons (vE (dVar 3)) (vCons (vE (dC (.int 0))) (vCons (vE (dC (.int 8))) vNil)))))))) (sRet (dC (.bool false))) sNext)
  (sSeq (sIf (dNot (dTru (dApp fAll (dCons (dComp (dIter (dVar 2)) (aName 5) dYes (dCall F_is_whole (vCons (vE (dVar 5)) (vCons (vE (dC (.int 1))) (vCons (vE (dC (.int 50))) vNil)))) [5]) dNil)))) (sRet (dC (.bool false))) sNext)
  (sRet (dApp fAll (dCons (dComp (dIter (dVar 3)) (aName 4) dYes (dCall F_is_write (vCons (vE (dVar 4)) (vCons (vE (dVar 1)) (vCons (vE (dApp fLen (dCons (dVar 2) dNil))) vNil)))) [4]) dNil)))))))

def rd_rest_bounds : PTS :=
  (sRet (dComp (dIter (dBin fIx (dVar 0) (dC (.int 2)))) (aName 1) dYes (dTup (dCons (dBin fIx (dVar 1) (dC (.int 3))) (dCons (dBin fIx (dVar 1) (dC (.int 4))) dNil))) [1]))

def rd_is_pace : PTS :=
  (sRet (dCall F_are_rests (vCons (vE (dVar 1)) (vCons (vE (dCall F_rest_bounds (vCons (vE (dVar 0)) vNil))) vNil))))

def rd_check_plan : PTS :=
  (sIf (dNot (dTru (dCall F_is_plan (vCons (vE (dVar 0)) vNil)))) sNever sNext)

def rd_check_pace : PTS :=
  (sIf (dNot (dTru (dCall F_is_pace (vCons (vE (dVar 0)) (vCons (vE (dVar 1)) vNil))))) sNever sNext)

def rd_check_cell : PTS :=
  (sIf (dNot (dTru (dCall F_is_whole (vCons (vE (dVar 1)) (vCons (vE (dC (.int 0))) (vCons (vE (dBin fSub (dBin fIx (dVar 0) (dC (.int 0))) (dC (.int 1)))) vNil)))))) sNever sNext)

def rd_check_tick : PTS :=
  (sIf (dNot (dTru (dCall F_is_whole (vCons (vE (dVar 0)) (vCons (vE (dC (.int 0))) (vCons (vE (dVar 1)) vNil)))))) sNever sNext)

def rd_summed : PTS :=
  (sSeq (sOwnL 2 dNil)
  (sSeq (sAsg (dVar 0) (aName 3))
  (sSeq (sFor (dIter (dVar 1)) (aName 4) (sSeq (sAug 3 (fIn0 fun i j => .int (i + j)) (dVar 4))
  (sApp 2 (dVar 3))))
  (sRet (dApp fTuple (dCons (dVar 2) dNil))))))

def rd_sign_at : PTS :=
  (sSeq (sAsg (dVar 0) (aTup 3 (aCons (aName 4) (aCons (aName 5) (aCons (aName 6) aNil)))))
  (sSeq (sAsg (dC (.str ".")) (aName 7))
  (sSeq (sFor (dZip (dCons (dVar 1) (dCons (dVar 6) dNil))) (aTup 2 (aCons (aName 8) (aCons (aName 9) aNil))) (sIf (dAnd (dTest (dBin fEq (dBin fIx (dVar 9) (dC (.int 0))) (dVar 2))) (dTest (dChain fLe fLt (dVar 8) (dVar 3) (dBin fAdd (dVar 8) (dBin fIx (dVar 5) (dBin fIx (dVar 9) (dC (.int 2)))))))) (sAsg (dBin fIx (dVar 9) (dC (.int 1))) (aName 7)) sNext))
  (sRet (dVar 7)))))

def rd_ticks : PTS :=
  (sSeq (sDrop (dCall F_check_plan (vCons (vE (dVar 0)) vNil)))
  (sSeq (sDrop (dCall F_check_pace (vCons (vE (dVar 0)) (vCons (vE (dVar 1)) vNil))))
  (sRet (dCall F_summed (vCons (vE (dC (.int 0))) (vCons (vE (dVar 1)) vNil))))))

def rd_seen : PTS :=
  (sSeq (sDrop (dCall F_check_plan (vCons (vE (dVar 0)) vNil)))
  (sSeq (sDrop (dCall F_check_pace (vCons (vE (dVar 0)) (vCons (vE (dVar 1)) vNil))))
  (sSeq (sDrop (dCall F_check_cell (vCons (vE (dVar 0)) (vCons (vE (dVar 2)) vNil))))
  (sSeq (sDrop (dCall F_check_tick (vCons (vE (dVar 3)) (vCons (vE (dC (.int 1000))) vNil))))
  (sRet (dCall F_sign_at (vCons (vE (dVar 0)) (vCons (vE (dCall F_summed (vCons (vE (dC (.int 0))) (vCons (vE (dVar 1)) vNil)))) (vCons (vE (dVar 2)) (vCons (vE (dVar 3)) vNil))))))))))

def rd_board : PTS :=
  (sSeq (sDrop (dCall F_check_plan (vCons (vE (dVar 0)) vNil)))
  (sSeq (sDrop (dCall F_check_pace (vCons (vE (dVar 0)) (vCons (vE (dVar 1)) vNil))))
  (sSeq (sDrop (dCall F_check_tick (vCons (vE (dVar 2)) (vCons (vE (dC (.int 1000))) vNil))))
  (sSeq (sAsg (dCall F_summed (vCons (vE (dC (.int 0))) (vCons (vE (dVar 1)) vNil))) (aName 3))
  (sRet (dJoin (dC (.str "")) (dComp (dRng1 (dCons (dBin fIx (dVar 0) (dC (.int 0))) dNil)) (aName 4) dYes (dCall F_sign_at (vCons (vE (dVar 0)) (vCons (vE (dVar 3)) (vCons (vE (dVar 4)) (vCons (vE (dVar 2)) vNil))))) [4])))))))

def rd_story : PTS :=
  (sSeq (sDrop (dCall F_check_plan (vCons (vE (dVar 0)) vNil)))
  (sSeq (sDrop (dCall F_check_pace (vCons (vE (dVar 0)) (vCons (vE (dVar 1)) vNil))))
  (sSeq (sDrop (dCall F_check_cell (vCons (vE (dVar 0)) (vCons (vE (dVar 2)) vNil))))
  (sSeq (sDrop (dCall F_check_tick (vCons (vE (dVar 3)) (vCons (vE (dC (.int 200))) vNil))))
  (sSeq (sAsg (dCall F_summed (vCons (vE (dC (.int 0))) (vCons (vE (dVar 1)) vNil))) (aName 4))
  (sRet (dJoin (dC (.str "")) (dComp (dRng1 (dCons (dBin fAdd (dVar 3) (dC (.int 1))) dNil)) (aName 5) dYes (dCall F_sign_at (vCons (vE (dVar 0)) (vCons (vE (dVar 4)) (vCons (vE (dVar 2)) (vCons (vE (dVar 5)) vNil))))) [5]))))))))
theorem holds_is_whole : ∀ as Q, F_is_whole as Q → rd_is_whole { nx := fun _ => Q .none, rt := Q } (startP ["value", "low", "high"] as) := by
  rintro _ Q ⟨d, lo, hi, rfl, q⟩
  unfold rd_is_whole
  walk_at "pd"
  cases d <;> simp only [isIntD, isBoolD, isWhole] at q ⊢ <;> walk_at "pd" <;> try exact q
  split
  · next h => simpa only [h, Bool.true_and] using q
  · next h => simpa only [h, Bool.false_and] using q
theorem holds_is_row : ∀ as Q, F_is_row as Q → rd_is_row { nx := fun _ => Q .none, rt := Q } (startP ["value", "least", "most"] as) := by
  rintro _ Q ⟨d, lo, hi, rfl, q⟩
  unfold rd_is_row
  walk_at "pd"
  cases d <;> simp only [isTupD, isRow] at q ⊢ <;> walk_at "pd" <;> try exact q
  split
  · next h => simpa only [h, Bool.true_and] using q
  · next h => simpa only [h, Bool.false_and] using q
theorem holds_is_letter : ∀ as Q, F_is_letter as Q → rd_is_letter { nx := fun _ => Q .none, rt := Q } (startP ["value"] as) := by
  rintro _ Q ⟨d, rfl, sm, q⟩
  unfold rd_is_letter
  walk_at "pd"
  cases d <;> simp only [isStrD, isLetter] at q ⊢ <;> walk_at "pd" <;> try exact q
  refine ⟨sm_str sm, ?_⟩
  by_cases h1 : (‹Str›.length : Int) = 1
  · rw [decide_eq_true h1] at q ⊢
    walk_at "pd"
    simp only [Bool.true_and] at q
    split
    · next h => simpa only [h, Bool.true_and] using q
    · next h => simpa only [h, Bool.false_and] using q
  · rw [decide_eq_false h1] at q ⊢
    walk_at "pd"
    exact q
theorem holds_is_span : ∀ as Q, F_is_span as Q → rd_is_span { nx := fun _ => Q .none, rt := Q } (startP ["low", "high", "most"] as) := by
  rintro _ Q ⟨l, h, m, rfl, q⟩
  unfold rd_is_span
  walk_at "pd"
  refine ⟨l, 0, m, rfl, _, rfl, ?_⟩
  cases l <;> simp only [isWhole, isSpan] at q ⊢ <;> (walk_at "pt") <;> try exact q
  refine ite_b (fun hh => ?_) fun hh => ?_
  · refine ⟨h, _, m, rfl, ?_⟩
    rw [hh, Bool.true_and] at q
    exact q
  · simpa only [hh, Bool.false_and] using q
theorem zip_bounds : ∀ (xs : List Dt) (bs : List (Int × Int)), zipD xs (bs.map fun b => .tuple [.int b.1, .int b.2]) = List.zipWith (fun x (b : Int × Int) => .tuple [x, .tuple [.int b.1, .int b.2]]) xs bs
  | [], _ => by simp [zipD]
  | x :: xs, [] => by simp [zipD]
  | x :: xs, b :: bs => by
    have := zip_bounds xs bs
    simp only [zipD] at this ⊢
    simp [this]
theorem all_rests : ∀ (xs : List Dt) (bs : List (Int × Int)), xs.length = bs.length → (List.zipWith (fun x (b : Int × Int) => isWhole x b.1 b.2) xs bs).all id = restsOk xs bs
  | [], [], _ => rfl
  | x :: xs, b :: bs, h => by
    have := all_rests xs bs (by simpa using h)
    simp [restsOk, this]
theorem map_bools (bs : List Bool) : dBools (bs.map PyData.bool) = some bs := by simpa using bools_map bs
def restF : Dt → Dt
  | .tuple [x, .tuple [.int a, .int b]] => .bool (isWhole x a b)
  | _ => .none
theorem holds_are_rests : ∀ as Q, F_are_rests as Q → rd_are_rests { nx := fun _ => Q .none, rt := Q } (startP ["value", "bounds", "rest", "low", "high"] as) := by
  rintro _ Q ⟨d, bs, rfl, q⟩
  unfold rd_are_rests boundsD
  walk_at "pd"
  refine ⟨d, _, _, rfl, _, rfl, ?_⟩
  rw [List.length_map]
  cases d <;> simp only [isRow, areRests] at q ⊢ <;> (walk_at "pt") <;> try exact q
  rename_i xs
  by_cases h : xs.length = bs.length
  · have h1 : (xs.length : Int) = (bs.length : Int) := by omega
    rw [decide_eq_true h, Bool.true_and] at q
    rw [h1, decide_eq_true (Int.le_refl _)]
    walk_at "pd"
    intro hz
    rw [zip_bounds]
    refine lcP_map0 restF _ _ (fun y hy P' p' => ?_) ?_
    · obtain ⟨x, b, rfl⟩ : ∃ (x : Dt) (b : Int × Int), y = .tuple [x, .tuple [.int b.1, .int b.2]] := by
        obtain ⟨i, hi, e⟩ := List.mem_iff_getElem.mp hy
        simp only [List.getElem_zipWith] at e
        exact ⟨_, _, e.symm⟩
      walk_at "pd"
      exact ⟨_, _, _, rfl, p'⟩
    · rw [← all_rests xs bs h] at q
      refine ⟨_, ?_, q⟩
      have e : ∀ (xs : List Dt) (bs : List (Int × Int)), (List.zipWith (fun x (b : Int × Int) => PyData.tuple [x, .tuple [.int b.1, .int b.2]]) xs bs).map restF = (List.zipWith (fun x (b : Int × Int) => isWhole x b.1 b.2) xs bs).map .bool := by
        intro xs
        induction xs with
        | nil => intro bs; rfl
        | cons x xs ih => intro bs; cases bs with
          | nil => rfl
          | cons b bs => simp only [List.zipWith_cons_cons, List.map_cons, ih, restF]
      rw [e]
      exact map_bools _
  · have h1 : (decide ((bs.length : Int) ≤ xs.length) && decide ((xs.length : Int) ≤ bs.length)) = false := by
      simp only [Bool.and_eq_false_iff, decide_eq_false_iff_not]
      omega
    rw [decide_eq_false h, Bool.false_and] at q
    rw [h1]
    walk_at "pd"
    exact q

theorem all_map {xs : List Dt} {f : Dt → Bool} {Q : Bool → Prop} (h : Q (xs.all f)) : ∃ bs, dBools (xs.map fun x => PyData.bool (f x)) = some bs ∧ Q (bs.all id) := by
  refine ⟨xs.map f, ?_, ?_⟩
  · rw [← map_bools (xs.map f), List.map_map]
    rfl
  · rw [List.all_map]
    exact h
theorem row_elems {d : Dt} {lo hi : Int} (h : isRow d lo hi = true) : ∃ xs, d = .tuple xs := by
  cases d <;> simp [isRow] at h
  exact ⟨_, rfl⟩
theorem row5 {d : Dt} (h : isRow d 5 5 = true) : ∃ a b c e f, d = .tuple [a, b, c, e, f] := by
  obtain ⟨xs, rfl⟩ := row_elems h
  simp only [isRow, Bool.and_eq_true, decide_eq_true_eq] at h
  match xs, h with
  | [a, b, c, e, f], _ => exact ⟨a, b, c, e, f, rfl⟩
  | [], h => simp at h
  | [_], h => simp at h
  | [_, _], h => simp at h
  | [_, _, _], h => simp at h
  | [_, _, _, _], h => simp at h
  | _ :: _ :: _ :: _ :: _ :: _ :: _, h => simp only [List.length_cons] at h; omega
theorem row3 {d : Dt} (h : isRow d 3 3 = true) : ∃ a b c, d = .tuple [a, b, c] := by
  obtain ⟨xs, rfl⟩ := row_elems h
  simp only [isRow, Bool.and_eq_true, decide_eq_true_eq] at h
  match xs, h with
  | [a, b, c], _ => exact ⟨a, b, c, rfl⟩
  | [], h => simp at h
  | [_], h => simp at h
  | [_, _], h => simp at h
  | _ :: _ :: _ :: _ :: _, h => simp only [List.length_cons] at h; omega
theorem not_write {d : Dt} {c n : Int} (h : isRow d 5 5 = false) : isWrite d c n = false := by
  unfold isWrite
  split
  · simp [isRow] at h
  · rfl
theorem not_plan {d : Dt} (h : isRow d 3 3 = false) : isPlan d = false := by
  unfold isPlan
  split
  · simp [isRow] at h
  · rfl
theorem holds_is_write : ∀ as Q, F_is_write as Q → rd_is_write { nx := fun _ => Q .none, rt := Q } (startP ["value", "cells", "inks", "cell", "sign", "ink", "low", "high"] as) := by
  rintro _ Q ⟨d, c, n, rfl, sm, q⟩
  unfold rd_is_write
  walk_at "pd"
  refine ⟨d, 5, 5, rfl, _, rfl, ?_⟩
  refine ite_b (fun h => ?_) fun h => ?_
  · rw [not_write (by simpa using h)] at q
    exact q
  · obtain ⟨a, b, i, l, hh, rfl⟩ := row5 (d := d) (by simpa using h)
    walk_at "pd"
    simp only [smD, smDs, Bool.and_eq_true] at sm
    simp only [isWrite] at q
    refine ⟨a, 0, _, rfl, _, rfl, ite_b (fun h1 => ?_) fun h1 => ?_⟩
    · walk_at "pt"
      rw [show isWhole a 0 (c - 1) = false by simpa using h1] at q
      simpa only [Bool.false_and] using q
    · rw [show isWhole a 0 (c - 1) = true by simpa using h1] at q
      refine ⟨b, rfl, sm.2.1, _, rfl, ite_b (fun h2 => ?_) fun h2 => ?_⟩
      · walk_at "pt"
        rw [show isLetter b = false by simpa using h2] at q
        simpa only [Bool.true_and, Bool.false_and] using q
      · rw [show isLetter b = true by simpa using h2] at q
        refine ⟨i, 0, _, rfl, _, rfl, ite_b (fun h3 => ?_) fun h3 => ?_⟩
        · rw [show isWhole i 0 (n - 1) = false by simpa using h3] at q
          simpa only [Bool.true_and, Bool.false_and] using q
        · rw [show isWhole i 0 (n - 1) = true by simpa using h3] at q
          exact ⟨l, hh, 50, rfl, by simpa only [Bool.true_and] using q⟩

theorem holds_is_plan : ∀ as Q, F_is_plan as Q → rd_is_plan { nx := fun _ => Q .none, rt := Q } (startP ["value", "cells", "stays", "writes", "write", "stay"] as) := by
  rintro _ Q ⟨d, rfl, sm, q⟩
  unfold rd_is_plan
  walk_at "pd"
  refine ⟨d, 3, 3, rfl, _, rfl, ?_⟩
  refine ite_b (fun h => ?_) fun h => ?_
  · rw [not_plan (by simpa using h)] at q
    exact q
  · obtain ⟨c, s, w, rfl⟩ := row3 (d := d) (by simpa using h)
    walk_at "pd"
    simp only [smD, smDs, Bool.and_eq_true] at sm
    simp only [isPlan] at q
    refine ⟨c, 1, 4, rfl, _, rfl, ite_b (fun h1 => ?_) fun h1 => ?_⟩
    · walk_at "pt"
      rw [show isWhole c 1 4 = false by simpa using h1] at q
      simpa only [Bool.false_and] using q
    · rw [show isWhole c 1 4 = true by simpa using h1] at q
      refine ⟨s, 1, 4, rfl, _, rfl, ite_b (fun h2 => ?_) fun h2 => ?_⟩
      · walk_at "pt"
        rw [show isRow s 1 4 = false by simpa using h2] at q
        simpa only [Bool.true_and, Bool.false_and] using q
      · rw [show isRow s 1 4 = true by simpa using h2] at q
        refine ⟨w, 0, 8, rfl, _, rfl, ite_b (fun h3 => ?_) fun h3 => ?_⟩
        · rw [show isRow w 0 8 = false by simpa using h3] at q
          simpa only [Bool.true_and, Bool.false_and] using q
        · rw [show isRow w 0 8 = true by simpa using h3] at q
          obtain ⟨ss, rfl⟩ := row_elems (d := s) (by simpa using h2)
          obtain ⟨ws, rfl⟩ := row_elems (d := w) (by simpa using h3)
          obtain ⟨ci, rfl⟩ : ∃ ci, c = .int ci := by
            cases c <;> simp [isWhole] at h1
            exact ⟨_, rfl⟩
          simp only [Bool.true_and, elems, intOf] at q
          walk_at "pd"
          intro _
          refine lcP_map0 (fun x => .bool (isWhole x 1 50)) _ _ (fun x _ P' p' => ?_) (all_map (Q := fun b => if (!b) = true then _ else _) ?_)
          · walk_at "pd"
            exact ⟨x, 1, 50, rfl, p'⟩
          · refine ite_b (fun h4 => ?_) fun h4 => ?_
            · rw [show ss.all (fun x => isWhole x 1 50) = false by simpa using h4] at q
              simpa only [Bool.false_and] using q
            · rw [show ss.all (fun x => isWhole x 1 50) = true by simpa using h4] at q
              intro _
              refine lcP_map0 (fun x => .bool (isWrite x ci ss.length)) _ _ (fun x hx P' p' => ?_) (all_map (Q := fun b => Q (.bool b)) (by simpa only [Bool.true_and] using q))
              walk_at "pd"
              exact ⟨x, ci, _, rfl, smDs_mem sm.2.2.1 hx, p'⟩
theorem holds_rest_bounds : ∀ as Q, F_rest_bounds as Q → rd_rest_bounds { nx := fun _ => Q .none, rt := Q } (startP ["plan", "write"] as) := by
  rintro _ Q ⟨p, rfl, q⟩
  unfold rd_rest_bounds
  walk_at "pd"
  walk_at "pp"
  intro _
  refine lcP_enc Wr.d (fun w => .tuple [.int w.low, .int w.high]) p.writes _ (fun w _ P' p' => ?_) ?_
  · walk_at "pd"
    walk_at "pp"
    exact ⟨by decide, p'⟩
  · unfold boundsD Plan.bounds at q
    rw [List.map_map] at q
    exact q
theorem holds_is_pace : ∀ as Q, F_is_pace as Q → rd_is_pace { nx := fun _ => Q .none, rt := Q } (startP ["plan", "value"] as) := by
  rintro _ Q ⟨p, d, rfl, q⟩
  unfold rd_is_pace
  walk_at "pd"
  exact ⟨p, rfl, d, _, rfl, q⟩
theorem holds_check_plan : ∀ as Q, F_check_plan as Q → rd_check_plan { nx := fun _ => Q .none, rt := Q } (startP ["plan"] as) := by
  rintro _ Q ⟨d, rfl, sm, ok, q⟩
  unfold rd_check_plan
  walk_at "pd"
  refine ⟨d, rfl, sm, _, rfl, ?_⟩
  rw [ok]
  walk_at "pd"
  exact q
theorem holds_check_pace : ∀ as Q, F_check_pace as Q → rd_check_pace { nx := fun _ => Q .none, rt := Q } (startP ["plan", "pace"] as) := by
  rintro _ Q ⟨p, d, rfl, ok, q⟩
  unfold rd_check_pace
  walk_at "pd"
  refine ⟨p, d, rfl, _, rfl, ?_⟩
  rw [ok]
  walk_at "pd"
  exact q
theorem holds_check_cell : ∀ as Q, F_check_cell as Q → rd_check_cell { nx := fun _ => Q .none, rt := Q } (startP ["plan", "cell"] as) := by
  rintro _ Q ⟨p, d, rfl, ok, q⟩
  unfold rd_check_cell
  walk_at "pd"
  walk_at "pp"
  refine ⟨d, 0, _, rfl, _, rfl, ?_⟩
  rw [ok]
  walk_at "pd"
  exact q
theorem holds_check_tick : ∀ as Q, F_check_tick as Q → rd_check_tick { nx := fun _ => Q .none, rt := Q } (startP ["tick", "most"] as) := by
  rintro _ Q ⟨d, m, rfl, ok, q⟩
  unfold rd_check_tick
  walk_at "pd"
  refine ⟨d, 0, m, rfl, _, rfl, ?_⟩
  rw [ok]
  walk_at "pd"
  exact q

theorem go_summed (Q : Dt → Prop) (d : Dt) (s : Int) : ∀ (rs : List Int) (acc : List Dt) (t : Int) (x : PV), acc.length + rs.length ≤ 2000 → Q (.tuple (acc ++ (sums t rs).map .int)) →
    forP (aName 4) (sSeq (sAug 3 (fIn0 fun i j => .int (i + j)) (dVar 4)) (sApp 2 (dVar 3))) { nx := sRet (dApp fTuple (dCons (dVar 2) dNil)) { nx := fun _ => Q .none, rt := Q }, rt := Q } (rs.map .int) [.d (.int s), .d d, .own (.list acc), .d (.int t), x]
  | [], acc, t, x, _, q => by
    walk_at "pd"
    simpa [sums] using q
  | r :: rs, acc, t, x, hl, q => by
    walk_at "pd"
    refine ⟨by rw [line_eq]; simp only [List.length_cons] at hl; omega, go_summed Q d s rs _ _ _ (by simp only [List.length_append, List.length_cons, List.length_nil] at hl ⊢; omega) ?_⟩
    simpa [sums] using q
theorem holds_summed : ∀ as Q, F_summed as Q → rd_summed { nx := fun _ => Q .none, rt := Q } (startP ["start", "rests", "found", "tick", "rest"] as) := by
  rintro _ Q ⟨s, rs, d, rfl, hd, hl, q⟩
  unfold rd_summed
  walk_at "pd"
  rcases hd with rfl | rfl
  all_goals
    walk_at "pt"
    refine ⟨by decide, fun _ => ?_⟩
    exact go_summed Q _ s rs [] s _ (by simp only [List.length_nil]; omega) (by simpa using q)
theorem getD_at {xs : List Int} {i : Int} (h0 : 0 ≤ i) (h1 : i < (xs.length : Int)) : atI (xs.map PyData.int) i = some (.int (xs.getD i.toNat 0)) := by
  have e : i = ((i.toNat : Nat) : Int) := by omega
  have hl : i.toNat < xs.length := by omega
  conv => lhs; rw [e]
  refine atI_nat ?_
  rw [List.getElem?_map, List.getElem?_eq_getElem hl, List.getD_eq_getElem?_getD, List.getElem?_eq_getElem hl]
  rfl
theorem go_sign (Q : Dt → Prop) (p : Plan) (td : Dt) (c t : Int) (x0 x6 : PV) : ∀ (l : List (Int × Wr)) (z : Str) (x8 x9 : PV), (∀ w ∈ l, 0 ≤ w.2.ink ∧ w.2.ink < (p.stays.length : Int)) → Q (.str (seenGo p.stays c t (l.map (·.1)) (l.map (·.2)) z)) →
    forP (aTup 2 (aCons (aName 8) (aCons (aName 9) aNil))) (sIf (dAnd (dTest (dBin fEq (dBin fIx (dVar 9) (dC (.int 0))) (dVar 2))) (dTest (dChain fLe fLt (dVar 8) (dVar 3) (dBin fAdd (dVar 8) (dBin fIx (dVar 5) (dBin fIx (dVar 9) (dC (.int 2)))))))) (sAsg (dBin fIx (dVar 9) (dC (.int 1))) (aName 7)) sNext)
      { nx := sRet (dVar 7) { nx := fun _ => Q .none, rt := Q }, rt := Q } (l.map fun w => .tuple [.int w.1, w.2.d]) [.d p.d, .d td, .d (.int c), .d (.int t), x0, .d (.tuple (p.stays.map .int)), x6, .d (.str z), x8, x9]
  | [], z, x8, x9, _, q => by
    walk_at "pd"
    exact q
  | w :: l, z, x8, x9, hi, q => by
    have h := hi w (by simp)
    have ih := fun z x8 x9 => go_sign Q p td c t x0 x6 l z x8 x9 fun v hv => hi v (by simp [hv])
    simp only [List.map_cons, seenGo] at q
    walk_at "pd"
    walk_at "pp"
    by_cases h1 : w.2.cell = c
    · rw [decide_eq_true h1]
      walk_at "pd"
      by_cases h2 : w.1 ≤ t
      · rw [decide_eq_true h2]
        walk_at "pd"
        refine ⟨_, getD_at h.1 h.2, ?_⟩
        walk_at "pd"
        refine ite_b (fun h3 => ?_) fun h3 => ?_
        · rw [if_pos ⟨h1, h2, of_decide_eq_true h3⟩] at q
          exact ih _ _ _ q
        · rw [if_neg (fun z => of_decide_eq_false h3 z.2.2)] at q
          exact ih _ _ _ q
      · rw [decide_eq_false h2]
        rw [if_neg (fun z => h2 z.2.1)] at q
        walk_at "pd"
        exact ih _ _ _ q
    · rw [decide_eq_false h1]
      rw [if_neg (fun z => h1 z.1)] at q
      walk_at "pd"
      exact ih _ _ _ q
theorem seenGo_zip (st : List Int) (c t : Int) : ∀ (ts : List Int) (ws : List Wr) (z : Str), seenGo st c t ((ts.zip ws).map (·.1)) ((ts.zip ws).map (·.2)) z = seenGo st c t ts ws z
  | [], _, _ => by simp [seenGo]
  | _ :: _, [], _ => by simp [seenGo]
  | a :: ts, w :: ws, z => by
    simp only [List.zip_cons_cons, List.map_cons, seenGo]
    exact seenGo_zip st c t ts ws _
theorem holds_sign_at : ∀ as Q, F_sign_at as Q → rd_sign_at { nx := fun _ => Q .none, rt := Q } (startP ["plan", "times", "cell", "tick", "_", "stays", "writes", "shown", "time", "write"] as) := by
  rintro _ Q ⟨p, ts, c, t, rfl, hi, q⟩
  unfold rd_sign_at
  walk_at "pd"
  walk_at "pp"
  intro _
  rw [zip_enc]
  refine go_sign Q p _ c t _ _ (ts.zip p.writes) _ _ _ (fun w hw => hi _ (List.of_mem_zip hw).2) ?_
  rw [seenGo_zip]
  exact q

theorem pace_len {rs : List Int} {bs : List (Int × Int)} (h : areRests (pacesD rs) bs = true) : rs.length = bs.length := by
  simp only [pacesD, areRests, Bool.and_eq_true, decide_eq_true_eq, List.length_map] at h
  exact h.1
theorem Plan.ok.le {p : Plan} (o : p.ok) {rs : List Int} (h : areRests (pacesD rs) p.bounds = true) : rs.length ≤ 8 := by
  rw [pace_len h, Plan.bounds, List.length_map]
  exact o.many
theorem holds_ticks : ∀ as Q, F_ticks as Q → rd_ticks { nx := fun _ => Q .none, rt := Q } (startP ["plan", "pace"] as) := by
  rintro _ Q ⟨p, rs, rfl, o, h, q⟩
  unfold rd_ticks
  walk_at "pd"
  refine ⟨_, rfl, o.sm, o.d, p, _, rfl, h, 0, rs, _, rfl, .inl rfl, by have := o.le h; omega, q⟩
theorem whole_in {i lo hi : Int} (h1 : lo ≤ i) (h2 : i ≤ hi) : isWhole (.int i) lo hi = true := by
  simp [isWhole, h1, h2]
theorem holds_seen : ∀ as Q, F_seen as Q → rd_seen { nx := fun _ => Q .none, rt := Q } (startP ["plan", "pace", "cell", "tick"] as) := by
  rintro _ Q ⟨p, rs, c, t, rfl, o, h, hc, ht, q⟩
  unfold rd_seen
  walk_at "pd"
  refine ⟨_, rfl, o.sm, o.d, p, _, rfl, h, p, _, rfl, whole_in hc.1 (by omega), _, 1000, rfl, whole_in ht.1 ht.2, 0, rs, _, rfl, .inl rfl, by have := o.le h; omega, ?_⟩
  exact ⟨p, _, c, t, rfl, o.inks, q⟩
theorem upTo_mem {n x : Int} (h : x ∈ upTo n) : 0 ≤ x ∧ x < n := by
  unfold upTo at h
  obtain ⟨i, hi, rfl⟩ := List.mem_map.mp h
  have := List.mem_range.mp hi
  omega
theorem upTo_len (n : Int) : (upTo n).length = n.toNat := by simp [upTo]
theorem range_upTo (n : Int) : rangeD 0 n.toNat = (upTo n).map PyData.int := by
  unfold rangeD upTo
  rw [List.map_map]
  exact List.map_congr_left fun i _ => by simp
theorem seenGo_one (st : List Int) (c t : Int) : ∀ (ts : List Int) (ws : List Wr) (z : Str), (∀ w ∈ ws, w.sign.length = 1) → z.length = 1 → (seenGo st c t ts ws z).length = 1
  | [], _, z, _, h => h
  | _ :: _, [], z, _, h => h
  | a :: ts, w :: ws, z, hw, h => by
    unfold seenGo
    refine seenGo_one st c t ts ws _ (fun v hv => hw v (by simp [hv])) ?_
    split
    · exact hw w (by simp)
    · exact h
theorem seenAt_one {p : Plan} (h : ∀ w ∈ p.writes, w.sign.length = 1) (ts : List Int) (c t : Int) : (seenAt p ts c t).length = 1 := seenGo_one _ _ _ _ _ _ h rfl
theorem sum_ones {α : Type} (f : α → Str) : ∀ (l : List α), (∀ x ∈ l, (f x).length = 1) → ((l.map f).map (·.length)).sum = l.length
  | [], _ => rfl
  | x :: l, h => by
    have := sum_ones f l fun y hy => h y (by simp [hy])
    simp only [List.map_cons, List.sum_cons, List.length_cons, this, h x (by simp)]
    omega
theorem join_ok {α : Type} {f : α → Str} {l : List α} (h : ∀ x ∈ l, (f x).length = 1) (hl : l.length ≤ 1000) : ((l.map f).map (·.length)).sum + (l.map f).length * ("" : Str).length ≤ 16777216 := by
  rw [sum_ones f l h, show ("" : Str).length = 0 from rfl]
  omega
theorem strs_at {α : Type} (f : α → Str) (l : List α) : dStrs (l.map fun x => PyData.str (f x)) = some (l.map f) := by
  have := strs_map (l.map f)
  rw [List.map_map] at this
  exact this
theorem holds_board : ∀ as Q, F_board as Q → rd_board { nx := fun _ => Q .none, rt := Q } (startP ["plan", "pace", "tick", "times", "cell"] as) := by
  rintro _ Q ⟨p, rs, t, rfl, o, h, ht, q⟩
  unfold rd_board
  walk_at "pd"
  refine ⟨_, rfl, o.sm, o.d, p, _, rfl, h, _, 1000, rfl, whole_in ht.1 ht.2, 0, rs, _, rfl, .inl rfl, by have := o.le h; omega, ?_⟩
  walk_at "pd"
  walk_at "pp"
  have oc := o.cells
  refine ⟨by omega, by omega, fun _ => ?_⟩
  rw [range_upTo]
  refine lcP_enc PyData.int (fun c => .str (seenAt p (sums 0 rs) c t)) _ _ (fun c hc P' p' => ?_) ?_
  · walk_at "pd"
    exact ⟨p, _, c, t, rfl, o.inks, p'⟩
  · exact ⟨_, .inl rfl, _, strs_at _ _, join_ok (fun c _ => seenAt_one o.one _ _ _) (by rw [upTo_len]; omega), q⟩
theorem holds_story : ∀ as Q, F_story as Q → rd_story { nx := fun _ => Q .none, rt := Q } (startP ["plan", "pace", "cell", "last", "times", "tick"] as) := by
  rintro _ Q ⟨p, rs, c, l, rfl, o, h, hc, hl, q⟩
  unfold rd_story
  walk_at "pd"
  refine ⟨_, rfl, o.sm, o.d, p, _, rfl, h, p, _, rfl, whole_in hc.1 (by omega), _, 200, rfl, whole_in hl.1 hl.2, 0, rs, _, rfl, .inl rfl, by have := o.le h; omega, ?_⟩
  walk_at "pd"
  refine ⟨by omega, by omega, fun _ => ?_⟩
  rw [range_upTo]
  refine lcP_enc PyData.int (fun t => .str (seenAt p (sums 0 rs) c t)) _ _ (fun t ht P' p' => ?_) ?_
  · walk_at "pd"
    exact ⟨p, _, c, t, rfl, o.inks, p'⟩
  · exact ⟨_, .inl rfl, _, strs_at _ _, join_ok (fun c _ => seenAt_one o.one _ _ _) (by rw [upTo_len]; omega), q⟩
end PF
namespace PF
open PySem L2 PD
local macro_rules | `(tactic| walk_at "pd") => `(tactic| simp only [sRet, sSeq, sIf, sNext, sNever, sAsg, sDrop, sFor, forP, sAug, sApp, sExt, sOwnL, sPar, sRow, dAndV, dOrV, dNotV, dIs, dVar, dC, dChain, dBin, dUn, fNeg, dTest, dTru, dNot, dAnd, dOr, dIf, dCall, dApp, vCons, vNil, vE, vRow, vScr, dCons, dNil, dTup, dLst, dComp, dIter, dRng1, dRng2, dZip, seqD, aName, aTup_tup, aCons, aNil, fIn0, fInt, fAdd, fOrd, fEq, fNe, fIs, fIsNot, isN, fIx_tup, fIx_lst, at0, at1, at2, at3, at_4, eqOk_int, eqv_int, eqOk_bool, eqv_bool, eqOk_str, eqv_str, eqOk_non, eqv_non, eqOk_nil, eqv_nil, decide_true, decide_false,  fLen, fTuple, fList, fAll, fAny, fIntC, truD, frz, startP, wipeP, dYes, dJoin, dIxO, dLenO, dSl, dPart, dNoPart, fSl,
  List.map_cons, List.map_nil, List.length_cons, List.length_nil, List.replicate, List.cons_append, List.nil_append, List.append_nil, List.getElem?_cons_zero, List.getElem?_cons_succ, List.set_cons_zero, List.set_cons_succ, Option.some.injEq, PV.d.injEq, PV.own.injEq, PV.scr.injEq, PyData.int.injEq, PyData.bool.injEq, PyData.list.injEq, PyData.tuple.injEq, PyData.str.injEq, List.cons.injEq, exists_eq_left', exists_eq_left, exists_eq', exists_eq_right', and_assoc, exists_and_left, Nat.zero_add, Nat.add_zero, Nat.reduceAdd, Nat.reduceSub, Nat.reduceLT, Nat.sub_self, ite_true, if_true, if_false, Bool.false_eq_true, ite_false, Bool.not_true, Bool.not_false, Bool.true_and, Bool.and_true, Bool.false_and, Bool.and_false, Bool.true_or, Bool.or_true, Bool.false_or, Bool.or_false, Bool.and_self, true_and, and_true])
local macro_rules | `(tactic| walk_at "pt") => `(tactic| try walk_at "pd")
local macro_rules | `(tactic| walk_at "pp") => `(tactic| (simp only [wr_ix0, wr_ix1, wr_ix2, wr_ix3, wr_ix4, pl_ix0, pl_ix1, pl_ix2, pl_tup] <;> walk_at "pt"))
/-! ### the law's own helpers -/
def F__law_taken : PF := Ftaken
def F__law_pick : PF := fun as P => ∃ xs : List Dt, as = [.row, .d (.list xs)] ∧ 0 < xs.length ∧ xs.length ≤ 1000 ∧ ∀ x ∈ xs, P x
theorem len__law_pick : ∀ as P, F__law_pick as P → as.length = 2 := by rintro _ P ⟨_, rfl, _⟩; rfl
/-- data down to a depth, without dicts -/
def good : Nat → Dt → Prop
  | _, .none => True
  | _, .bool _ => True
  | _, .int _ => True
  | _, .str _ => True
  | n + 1, .list xs => xs.length ≤ 100000 ∧ ∀ x ∈ xs, good n x
  | n + 1, .tuple xs => xs.length ≤ 100000 ∧ ∀ x ∈ xs, good n x
  | _, _ => False
def Falike : Nat → PF
  | 0 => fun _ _ => False
  | n + 1 => fun as P => ∃ d : Dt, as = [.d d, .d d] ∧ good n d ∧ P (.bool true)
theorem len_alike (n : Nat) : ∀ as P, Falike n as P → as.length = 2 := by
  cases n with
  | zero => intro _ _ h; exact h.elim
  | succ n => rintro _ P ⟨_, rfl, _⟩; rfl
def F__law_alike : PF := Falike 4
structure Drawn (m w : Int) (p : Plan) : Prop where
  cells : 1 ≤ p.cells ∧ p.cells ≤ 2
  stays : 1 ≤ p.stays.length ∧ p.stays.length ≤ 3
  stay : ∀ s ∈ p.stays, 1 ≤ s ∧ s ≤ 6
  many : (p.writes.length : Int) ≤ m
  cell : ∀ x ∈ p.writes, 0 ≤ x.cell ∧ x.cell < p.cells
  sign : ∀ x ∈ p.writes, x.sign = "a" ∨ x.sign = "b" ∨ x.sign = "c"
  ink : ∀ x ∈ p.writes, 0 ≤ x.ink ∧ x.ink < (p.stays.length : Int)
  low : ∀ x ∈ p.writes, 0 ≤ x.low ∧ x.low ≤ 3
  high : ∀ x ∈ p.writes, x.low ≤ x.high ∧ x.high ≤ x.low + w
def F__law_plan : PF := fun as P => ∃ m w : Int, as = [.row, .d (.int m), .d (.int w)] ∧ (0 ≤ m ∧ m ≤ 8) ∧ (0 ≤ w ∧ w ≤ 40) ∧ ∀ p, Drawn m w p → P p.d
theorem len__law_plan : ∀ as P, F__law_plan as P → as.length = 3 := by rintro _ P ⟨_, _, rfl, _⟩; rfl
def F__law_ticks : PF := fun as P => ∃ (rs : List Int) (s : Int) (d : Dt), as = [.d d, .d (.int s)] ∧ (d = .tuple (rs.map .int) ∨ d = .list (rs.map .int)) ∧ rs.length ≤ 1000 ∧ P (.list ((sums s rs).map .int))
theorem len__law_ticks : ∀ as P, F__law_ticks as P → as.length = 2 := by rintro _ P ⟨_, _, _, rfl, _⟩; rfl
def F__law_seen : PF := fun as P => ∃ (p : Plan) (ts : List Int) (c t : Int), as = [.d p.d, .d (.list (ts.map .int)), .d (.int c), .d (.int t)] ∧ p.inks ∧ P (.str (seenAt p ts c t))
theorem len__law_seen : ∀ as P, F__law_seen as P → as.length = 4 := by rintro _ P ⟨_, _, _, _, rfl, _⟩; rfl
def F_law : PF := fun as P => ∃ ns : List Int, as = [.scr ns] ∧ P (.bool true)
theorem len_law : ∀ as P, F_law as P → as.length = 1 := by rintro _ P ⟨_, rfl, _⟩; rfl
def rd__law_pick : PTS :=
  (sRet (dBin fIx (dVar 1) (dCall F__law_taken (vCons (vRow 0) (vCons (vE (dApp fLen (dCons (dVar 1) dNil))) vNil)))))

def rd__law_alike (F__law_alike : PF) : PTS :=
  (sSeq (sIf (dTru (dIs (fun d => isTupD d || isLstD d) (dVar 1))) (sSeq (sIf (dOr (dNot (dTru (dIs (fun d => isTupD d || isLstD d) (dVar 0)))) (dTest (dBin fNe (dIs isLstD (dVar 0)) (dIs isLstD (dVar 1))))) (sRet (dC (.bool false))) sNext)
  (sSeq (sIf (dTest (dBin fNe (dApp fLen (dCons (dVar 0) dNil)) (dApp fLen (dCons (dVar 1) dNil)))) (sRet (dC (.bool false))) sNext)
  (sRet (dBin fEq (dComp (dRng1 (dCons (dApp fLen (dCons (dVar 1) dNil)) dNil)) (aName 2) (dNot (dTru (dCall F__law_alike (vCons (vE (dBin fIx (dVar 0) (dVar 2))) (vCons (vE (dBin fIx (dVar 1) (dVar 2))) vNil))))) (dVar 2) [2]) (dLst dNil))))) sNext)
  (sSeq (sIf (dTru (dIs isDicD (dVar 1))) sNever sNext)
  (sSeq (sIf (dOr (dTest (dBin fIs (dVar 1) (dC .none))) (dTru (dIs isStrD (dVar 1)))) (sRet (dAndV (dBin fEq (dVar 0) (dVar 1)) (dBin fEq (dIs isStrD (dVar 0)) (dIs isStrD (dVar 1))))) sNext)
  (sRet (dAndV (dIs isIntD (dVar 0)) (dAndV (dBin fEq (dIs isBoolD (dVar 0)) (dIs isBoolD (dVar 1))) (dBin fEq (dVar 0) (dVar 1))))))))

def rd__law_plan : PTS :=
  (sSeq (sPar 3 4 (dCons (dBin fAdd (dC (.int 1)) (dCall F__law_taken (vCons (vRow 0) (vCons (vE (dC (.int 2))) vNil)))) (dCons (dBin fAdd (dC (.int 1)) (dCall F__law_taken (vCons (vRow 0) (vCons (vE (dC (.int 3))) vNil)))) dNil)))
  (sSeq (sAsg (dApp fTuple (dCons (dComp (dRng1 (dCons (dVar 4) dNil)) (aName 10) dYes (dBin fAdd (dC (.int 1)) (dCall F__law_taken (vCons (vRow 0) (vCons (vE (dC (.int 6))) vNil)))) [10]) dNil)) (aName 5))
  (sSeq (sOwnL 6 dNil)
  (sSeq (sFor (dRng1 (dCons (dCall F__law_taken (vCons (vRow 0) (vCons (vE (dBin fAdd (dVar 1) (dC (.int 1)))) vNil))) dNil)) (aName 7) (sSeq (sAsg (dCall F__law_pick (vCons (vRow 0) (vCons (vE (dLst (dCons (dC (.int 0)) (dCons (dC (.int 0)) (dCons (dC (.int 1)) (dCons (dC (.int 2)) (dCons (dC (.int 3)) dNil))))))) vNil))) (aName 8))
  (sSeq (sAsg (dCall F__law_pick (vCons (vRow 0) (vCons (vE (dLst (dCons (dC (.str "a")) (dCons (dC (.str "b")) (dCons (dC (.str "c")) dNil))))) vNil))) (aName 9))
  (sApp 6 (dTup (dCons (dCall F__law_taken (vCons (vRow 0) (vCons (vE (dVar 3)) vNil))) (dCons (dVar 9) (dCons (dCall F__law_taken (vCons (vRow 0) (vCons (vE (dVar 4)) vNil))) (dCons (dVar 8) (dCons (dBin fAdd (dVar 8) (dCall F__law_taken (vCons (vRow 0) (vCons (vE (dBin fAdd (dVar 2) (dC (.int 1)))) vNil)))) dNil))))))))))
  (sRet (dTup (dCons (dVar 3) (dCons (dVar 5) (dCons (dApp fTuple (dCons (dVar 6) dNil)) dNil)))))))))

def rd__law_ticks : PTS :=
  (sSeq (sOwnL 2 dNil)
  (sSeq (sFor (dIter (dVar 0)) (aName 3) (sSeq (sAsg (dBin fAdd (dVar 1) (dVar 3)) (aName 1))
  (sApp 2 (dVar 1))))
  (sRet (dVar 2))))

def rd__law_seen : PTS :=
  (sSeq (sAsg (dC (.str ".")) (aName 4))
  (sSeq (sFor (dZip (dCons (dBin fIx (dVar 0) (dC (.int 2))) (dCons (dVar 1) dNil))) (aTup 2 (aCons (aName 5) (aCons (aName 6) aNil))) (sIf (dAnd (dTest (dBin fEq (dBin fIx (dVar 5) (dC (.int 0))) (dVar 2))) (dAnd (dTest (dBin fLe (dVar 6) (dVar 3))) (dTest (dBin fLt (dVar 3) (dBin fAdd (dVar 6) (dBin fIx (dBin fIx (dVar 0) (dC (.int 1))) (dBin fIx (dVar 5) (dC (.int 2))))))))) (sAsg (dBin fIx (dVar 5) (dC (.int 1))) (aName 4)) sNext))
  (sRet (dVar 4))))

theorem holds__law_pick : ∀ as Q, F__law_pick as Q → rd__law_pick { nx := fun _ => Q .none, rt := Q } (startP ["row", "things"] as) := by
  rintro _ Q ⟨xs, rfl, h0, h1, q⟩
  unfold rd__law_pick
  walk_at "pd"
  refine ⟨_, rfl, by omega, by omega, fun x hx0 hx1 => ?_⟩
  walk_at "pd"
  have hl : x.toNat < xs.length := by omega
  refine ⟨xs[x.toNat], ?_, q _ (List.getElem_mem _)⟩
  have e : x = ((x.toNat : Nat) : Int) := by omega
  conv => lhs; rw [e]
  exact atI_nat (List.getElem?_eq_getElem hl)
theorem filter_no (xs : List Dt) : xs.filter (fun _ => false) = [] := by induction xs with
  | nil => rfl
  | cons x xs ih => simpa using ih
theorem range_mem {n : Nat} {x : Dt} (h : x ∈ rangeD 0 n) : ∃ i : Nat, i < n ∧ x = .int i := by
  unfold rangeD at h
  obtain ⟨i, hi, rfl⟩ := List.mem_map.mp h
  exact ⟨i, List.mem_range.mp hi, by simp⟩
theorem good_list {n : Nat} {xs : List Dt} (h : good n (.list xs)) : ∃ m, n = m + 1 ∧ xs.length ≤ 100000 ∧ ∀ x ∈ xs, good m x := by
  cases n with
  | zero => exact h.elim
  | succ m => exact ⟨m, rfl, h⟩
theorem good_tuple {n : Nat} {xs : List Dt} (h : good n (.tuple xs)) : ∃ m, n = m + 1 ∧ xs.length ≤ 100000 ∧ ∀ x ∈ xs, good m x := by
  cases n with
  | zero => exact h.elim
  | succ m => exact ⟨m, rfl, h⟩
theorem hold_alike (n : Nat) : ∀ as Q, Falike (n + 1) as Q → rd__law_alike (Falike n) { nx := fun _ => Q .none, rt := Q } (startP ["found", "due", "k", "key"] as) := by
  rintro _ Q ⟨d, rfl, hg, q⟩
  unfold rd__law_alike
  walk_at "pd"
  cases d <;> simp only [isTupD, isLstD, isDicD, isStrD, isIntD, isBoolD] <;> walk_at "pt" <;> try exact q
  · obtain ⟨m, rfl, hl, hx⟩ := good_list hg
    refine ⟨by omega, by omega, fun _ => ?_⟩
    refine lcP_filter0 (fun _ => false) id _ _ (fun x hm Pt Pf h => ?_) ?_
    · obtain ⟨i, hi, rfl⟩ := range_mem hm
      walk_at "pd"
      rw [Int.toNat_natCast] at hi
      rename_i xs _
      have g : atI xs (i : Int) = some xs[i] := atI_nat (List.getElem?_eq_getElem hi)
      refine ⟨_, g, _, g, xs[i], rfl, hx _ (List.getElem_mem _), _, rfl, ?_⟩
      simpa using h
    · rw [filter_no]
      walk_at "pd"
      exact ⟨by decide, q⟩
  · obtain ⟨m, rfl, hl, hx⟩ := good_tuple hg
    refine ⟨by omega, by omega, fun _ => ?_⟩
    refine lcP_filter0 (fun _ => false) id _ _ (fun x hm Pt Pf h => ?_) ?_
    · obtain ⟨i, hi, rfl⟩ := range_mem hm
      walk_at "pd"
      rw [Int.toNat_natCast] at hi
      rename_i xs _
      have g : atI xs (i : Int) = some xs[i] := atI_nat (List.getElem?_eq_getElem hi)
      refine ⟨_, g, _, g, xs[i], rfl, hx _ (List.getElem_mem _), _, rfl, ?_⟩
      simpa using h
    · rw [filter_no]
      walk_at "pd"
      exact ⟨by decide, q⟩
  · cases n <;> exact hg
theorem go_ticks (Q : Dt → Prop) (d : Dt) : ∀ (rs : List Int) (acc : List Dt) (t : Int) (x : PV), acc.length + rs.length ≤ 2000 → Q (.list (acc ++ (sums t rs).map .int)) →
    forP (aName 3) (sSeq (sAsg (dBin fAdd (dVar 1) (dVar 3)) (aName 1)) (sApp 2 (dVar 1))) { nx := sRet (dVar 2) { nx := fun _ => Q .none, rt := Q }, rt := Q } (rs.map .int) [.d d, .d (.int t), .own (.list acc), x]
  | [], acc, t, x, _, q => by
    walk_at "pd"
    simpa [sums] using q
  | r :: rs, acc, t, x, hl, q => by
    walk_at "pd"
    refine ⟨by rw [line_eq]; simp only [List.length_cons] at hl; omega, go_ticks Q d rs _ _ _ (by simp only [List.length_append, List.length_cons, List.length_nil] at hl ⊢; omega) ?_⟩
    simpa [sums] using q
theorem holds__law_ticks : ∀ as Q, F__law_ticks as Q → rd__law_ticks { nx := fun _ => Q .none, rt := Q } (startP ["rests", "first", "found", "rest"] as) := by
  rintro _ Q ⟨rs, s, d, rfl, hd, hl, q⟩
  unfold rd__law_ticks
  walk_at "pd"
  rcases hd with rfl | rfl
  all_goals
    walk_at "pt"
    refine ⟨by decide, fun _ => ?_⟩
    exact go_ticks Q _ rs [] s _ (by simp only [List.length_nil]; omega) (by simpa using q)
theorem go_lseen (Q : Dt → Prop) (p : Plan) (td : Dt) (c t : Int) : ∀ (l : List (Wr × Int)) (z : Str) (x8 x9 : PV), (∀ w ∈ l, 0 ≤ w.1.ink ∧ w.1.ink < (p.stays.length : Int)) → Q (.str (seenGo p.stays c t (l.map (·.2)) (l.map (·.1)) z)) →
    forP (aTup 2 (aCons (aName 5) (aCons (aName 6) aNil))) (sIf (dAnd (dTest (dBin fEq (dBin fIx (dVar 5) (dC (.int 0))) (dVar 2))) (dAnd (dTest (dBin fLe (dVar 6) (dVar 3))) (dTest (dBin fLt (dVar 3) (dBin fAdd (dVar 6) (dBin fIx (dBin fIx (dVar 0) (dC (.int 1))) (dBin fIx (dVar 5) (dC (.int 2))))))))) (sAsg (dBin fIx (dVar 5) (dC (.int 1))) (aName 4)) sNext)
      { nx := sRet (dVar 4) { nx := fun _ => Q .none, rt := Q }, rt := Q } (l.map fun w => .tuple [w.1.d, .int w.2]) [.d p.d, .d td, .d (.int c), .d (.int t), .d (.str z), x8, x9]
  | [], z, x8, x9, _, q => by
    walk_at "pd"
    exact q
  | w :: l, z, x8, x9, hi, q => by
    have h := hi w (by simp)
    have ih := fun z x8 x9 => go_lseen Q p td c t l z x8 x9 fun v hv => hi v (by simp [hv])
    simp only [List.map_cons, seenGo] at q
    walk_at "pd"
    walk_at "pp"
    by_cases h1 : w.1.cell = c
    · rw [decide_eq_true h1]
      walk_at "pd"
      by_cases h2 : w.2 ≤ t
      · rw [decide_eq_true h2]
        walk_at "pd"
        refine ⟨_, getD_at h.1 h.2, ?_⟩
        walk_at "pd"
        refine ite_b (fun h3 => ?_) fun h3 => ?_
        · rw [if_pos ⟨h1, h2, of_decide_eq_true h3⟩] at q
          exact ih _ _ _ q
        · rw [if_neg (fun z => of_decide_eq_false h3 z.2.2)] at q
          exact ih _ _ _ q
      · rw [decide_eq_false h2]
        rw [if_neg (fun z => h2 z.2.1)] at q
        walk_at "pd"
        exact ih _ _ _ q
    · rw [decide_eq_false h1]
      rw [if_neg (fun z => h1 z.1)] at q
      walk_at "pd"
      exact ih _ _ _ q
theorem seenGo_zip2 (st : List Int) (c t : Int) : ∀ (ws : List Wr) (ts : List Int) (z : Str), seenGo st c t ((ws.zip ts).map (·.2)) ((ws.zip ts).map (·.1)) z = seenGo st c t ts ws z
  | [], ts, _ => by cases ts <;> simp [seenGo]
  | _ :: _, [], _ => by simp [seenGo]
  | a :: ws, t' :: ts, z => by
    simp only [List.zip_cons_cons, List.map_cons, seenGo]
    exact seenGo_zip2 st c t ws ts _
theorem holds__law_seen : ∀ as Q, F__law_seen as Q → rd__law_seen { nx := fun _ => Q .none, rt := Q } (startP ["plan", "told", "cell", "tick", "found", "write", "done"] as) := by
  rintro _ Q ⟨p, ts, c, t, rfl, hi, q⟩
  unfold rd__law_seen
  walk_at "pd"
  walk_at "pp"
  intro _
  rw [zip_enc]
  refine go_lseen Q p _ c t (p.writes.zip ts) _ _ _ (fun w hw => hi _ (List.of_mem_zip hw).1) ?_
  rw [seenGo_zip2]
  exact q

/-- what a draw hands on -/
theorem paired_ints {α : Type} {R : Dt → Dt → Prop} {C : Int → Prop} (hR : ∀ x y, R x y → ∃ i, y = .int i ∧ C i) : ∀ {xs ys : List Dt}, Paired R xs ys → ∃ is : List Int, ys = is.map .int ∧ is.length = xs.length ∧ ∀ i ∈ is, C i
  | _, _, .nil => ⟨[], rfl, rfl, by simp⟩
  | _, _, .cons h t => by
    obtain ⟨i, rfl, hi⟩ := hR _ _ h
    obtain ⟨is, rfl, hl, hc⟩ := paired_ints (α := α) hR t
    exact ⟨i :: is, rfl, by simp [hl], by simpa using ⟨hi, hc⟩⟩
def rd_turn : PTS := (sSeq (sAsg (dCall F__law_pick (vCons (vRow 0) (vCons (vE (dLst (dCons (dC (.int 0)) (dCons (dC (.int 0)) (dCons (dC (.int 1)) (dCons (dC (.int 2)) (dCons (dC (.int 3)) dNil))))))) vNil))) (aName 8))
  (sSeq (sAsg (dCall F__law_pick (vCons (vRow 0) (vCons (vE (dLst (dCons (dC (.str "a")) (dCons (dC (.str "b")) (dCons (dC (.str "c")) dNil))))) vNil))) (aName 9))
  (sApp 6 (dTup (dCons (dCall F__law_taken (vCons (vRow 0) (vCons (vE (dVar 3)) vNil))) (dCons (dVar 9) (dCons (dCall F__law_taken (vCons (vRow 0) (vCons (vE (dVar 4)) vNil))) (dCons (dVar 8) (dCons (dBin fAdd (dVar 8) (dCall F__law_taken (vCons (vRow 0) (vCons (vE (dBin fAdd (dVar 2) (dC (.int 1)))) vNil)))) dNil)))))))))
structure WrOk (cells inks w : Int) (x : Wr) : Prop where
  cell : 0 ≤ x.cell ∧ x.cell < cells
  sign : x.sign = "a" ∨ x.sign = "b" ∨ x.sign = "c"
  ink : 0 ≤ x.ink ∧ x.ink < inks
  low : 0 ≤ x.low ∧ x.low ≤ 3
  high : x.low ≤ x.high ∧ x.high ≤ x.low + w
theorem go_plan (Q : Dt → Prop) (m w c n : Int) (hw : 0 ≤ w ∧ w ≤ 40) (hc : 1 ≤ c ∧ c ≤ 2) (hn : 1 ≤ n ∧ n ≤ 3) (st : Dt) (x10 : PV) : ∀ (xs : List Dt) (acc : List Wr) (x7 x8 x9 : PV), acc.length + xs.length ≤ 1000 → (∀ x ∈ acc, WrOk c n w x) →
    (∀ ws : List Wr, ws.length = acc.length + xs.length → (∀ x ∈ ws, WrOk c n w x) → Q (.tuple [.int c, st, .tuple (ws.map Wr.d)])) →
    forP (aName 7) rd_turn { nx := sRet (dTup (dCons (dVar 3) (dCons (dVar 5) (dCons (dApp fTuple (dCons (dVar 6) dNil)) dNil)))) { nx := fun _ => Q .none, rt := Q }, rt := Q } xs
      [.row, .d (.int m), .d (.int w), .d (.int c), .d (.int n), .d st, .own (.list (acc.map Wr.d)), x7, x8, x9, x10]
  | [], acc, x7, x8, x9, hl, ha, q => by
    walk_at "pd"
    exact ⟨by decide, q acc rfl ha⟩
  | x :: xs, acc, x7, x8, x9, hl, ha, q => by
    unfold rd_turn
    walk_at "pd"
    refine ⟨by decide, _, rfl, by simp, by simp, fun y hy => ?_⟩
    obtain ⟨lo, rfl, hlo⟩ : ∃ lo : Int, y = .int lo ∧ 0 ≤ lo ∧ lo ≤ 3 := by
      simp only [List.mem_cons, List.not_mem_nil, or_false] at hy
      rcases hy with rfl | rfl | rfl | rfl | rfl <;> exact ⟨_, rfl, by decide, by decide⟩
    refine ⟨by decide, _, rfl, by simp, by simp, fun y hy => ?_⟩
    obtain ⟨sg, rfl, hsg⟩ : ∃ sg : Str, y = .str sg ∧ (sg = "a" ∨ sg = "b" ∨ sg = "c") := by
      simp only [List.mem_cons, List.not_mem_nil, or_false] at hy
      rcases hy with rfl | rfl | rfl
      · exact ⟨_, rfl, .inl rfl⟩
      · exact ⟨_, rfl, .inr (.inl rfl)⟩
      · exact ⟨_, rfl, .inr (.inr rfl)⟩
    refine ⟨c, rfl, by omega, by omega, fun ce h1 h2 => ?_⟩
    refine ⟨n, rfl, by omega, by omega, fun ik h3 h4 => ?_⟩
    walk_at "pd"
    refine ⟨w + 1, rfl, by omega, by omega, fun hi h5 h6 => ?_⟩
    walk_at "pd"
    refine ⟨by decide, by rw [line_eq, List.length_map]; simp only [List.length_cons] at hl; omega, ?_⟩
    have ih := go_plan Q m w c n hw hc hn st x10 xs (acc ++ [⟨ce, sg, ik, lo, lo + hi⟩])
    rw [List.map_append] at ih
    unfold rd_turn at ih
    refine ih _ _ _ (by simp only [List.length_append, List.length_cons, List.length_nil] at hl ⊢; omega) (fun y hy => ?_) fun ws hl2 hw2 => q ws (by simp only [List.length_append, List.length_cons, List.length_nil] at hl2 ⊢; omega) hw2
    rcases List.mem_append.mp hy with hy | hy
    · exact ha y hy
    · rw [List.mem_singleton] at hy
      subst hy
      exact ⟨⟨h1, h2⟩, hsg, ⟨h3, h4⟩, hlo, ⟨by show lo ≤ lo + hi; omega, by show lo + hi ≤ lo + w; omega⟩⟩
theorem holds__law_plan : ∀ as Q, F__law_plan as Q → rd__law_plan { nx := fun _ => Q .none, rt := Q } (startP ["row", "most", "wide", "cells", "inks", "stays", "writes", "turn", "low", "sign", "ink"] as) := by
  rintro _ Q ⟨m, w, rfl, hm, hw, q⟩
  unfold rd__law_plan
  walk_at "pd"
  refine ⟨2, rfl, by decide, by decide, fun c0 h1 h2 => ?_⟩
  walk_at "pd"
  refine ⟨3, rfl, by decide, by decide, fun n0 h3 h4 => ?_⟩
  walk_at "pd"
  refine ⟨by omega, by omega, fun _ => ?_⟩
  refine lcP_rel0 (fun _ y => ∃ s : Int, y = .int s ∧ 1 ≤ s ∧ s ≤ 6) _ _ (fun x _ P' p' => ?_) fun ys hys => ?_
  · walk_at "pd"
    refine ⟨6, rfl, by decide, by decide, fun s h5 h6 => ?_⟩
    walk_at "pd"
    exact p' _ ⟨_, rfl, by omega, by omega⟩
  · obtain ⟨ss, rfl, hl, hss⟩ := paired_ints (α := Unit) (C := fun s => 1 ≤ s ∧ s ≤ 6) (fun _ _ h => h) hys
    rw [rangeD_length] at hl
    refine ⟨by decide, m + 1, rfl, by omega, by omega, fun k h5 h6 => ?_⟩
    walk_at "pd"
    refine ⟨by omega, by omega, fun _ => ?_⟩
    refine go_plan Q m w (1 + c0) (1 + n0) hw (by omega) (by omega) _ _ _ [] _ _ _ (by simp [rangeD_length]; omega) (by simp) fun ws hl2 hws => ?_
    have hl3 : ws.length = k.toNat := by simpa [rangeD_length] using hl2
    have hln : (ss.length : Int) = 1 + n0 := by omega
    exact q ⟨1 + c0, ss, ws⟩ ⟨by show 1 ≤ 1 + c0 ∧ 1 + c0 ≤ 2; omega, by show 1 ≤ ss.length ∧ ss.length ≤ 3; omega, hss, by show (ws.length : Int) ≤ m; omega, fun x hx => (hws x hx).cell, fun x hx => (hws x hx).sign, fun x hx => by show 0 ≤ x.ink ∧ x.ink < (ss.length : Int); rw [hln]; exact (hws x hx).ink, fun x hx => (hws x hx).low, fun x hx => (hws x hx).high⟩
end PF
namespace PF
open PySem L2 PD
local macro_rules | `(tactic| walk_at "pd") => `(tactic| simp only [sRet, sSeq, sIf, sNext, sNever, sAsg, sDrop, sFor, forP, sAug, sApp, sExt, sOwnL, sPar, sRow, dAndV, dOrV, dNotV, dIs, dVar, dC, dChain, dBin, dUn, fNeg, dTest, dTru, dNot, dAnd, dOr, dIf, dCall, dApp, vCons, vNil, vE, vRow, vScr, dCons, dNil, dTup, dLst, dComp, dIter, dRng1, dRng2, dZip, seqD, aName, aTup_tup, aCons, aNil, fIn0, fInt, fAdd, fOrd, fEq, fNe, fIs, fIsNot, isN, fIx_tup, fIx_lst, at0, at1, at2, at3, at_4, eqOk_int, eqv_int, eqOk_bool, eqv_bool, eqOk_str, eqv_str, eqOk_non, eqv_non, eqOk_nil, eqv_nil, decide_true, decide_false,  fLen, fTuple, fList, fAll, fAny, fIntC, truD, frz, startP, wipeP, dYes, dJoin, dIxO, dLenO, dSl, dPart, dNoPart, fSl,
  List.map_cons, List.map_nil, List.length_cons, List.length_nil, List.replicate, List.cons_append, List.nil_append, List.append_nil, List.getElem?_cons_zero, List.getElem?_cons_succ, List.set_cons_zero, List.set_cons_succ, Option.some.injEq, PV.d.injEq, PV.own.injEq, PV.scr.injEq, PyData.int.injEq, PyData.bool.injEq, PyData.list.injEq, PyData.tuple.injEq, PyData.str.injEq, List.cons.injEq, exists_eq_left', exists_eq_left, exists_eq', exists_eq_right', and_assoc, exists_and_left, Nat.zero_add, Nat.add_zero, Nat.reduceAdd, Nat.reduceSub, Nat.reduceLT, Nat.sub_self, ite_true, if_true, if_false, Bool.false_eq_true, ite_false, Bool.not_true, Bool.not_false, Bool.true_and, Bool.and_true, Bool.false_and, Bool.and_false, Bool.true_or, Bool.or_true, Bool.false_or, Bool.or_false, Bool.and_self, true_and, and_true])
local macro_rules | `(tactic| walk_at "pt") => `(tactic| try walk_at "pd")
theorem lcP_relE' {α : Type} {g : PTG} {te : PT0} {ρ : List PV} (enc : α → Dt) (R : α → Dt → Prop) : ∀ (ws : List α) (acc : List Dt) (P : List Dt → Prop), (∀ w ∈ ws, ∀ P' : Dt → Prop, (∀ y, R w y → P' y) → g (enc w) ρ fun ρ1 => te ρ1 P') → (∀ ys, Paired R ws ys → P (acc ++ ys)) → lcP g dYes te ρ (ws.map enc) acc P
  | [], acc, P, _, h => by simpa [lcP] using h [] .nil
  | x :: xs, acc, P, hx, h => by
    rw [List.map_cons]
    unfold lcP
    simp only [dYes, if_true]
    refine hx x (by simp) _ fun y hy => lcP_relE' enc R xs (acc ++ [y]) P (fun y hy => hx y (by simp [hy])) fun ys hr => ?_
    simpa using h (y :: ys) (.cons hy hr)
theorem lcP_relE {α : Type} {g : PTG} {te : PT0} {ρ : List PV} (enc : α → Dt) (R : α → Dt → Prop) (ws : List α) (P : List Dt → Prop) (h : ∀ w ∈ ws, ∀ P' : Dt → Prop, (∀ y, R w y → P' y) → g (enc w) ρ fun ρ1 => te ρ1 P') (p : ∀ ys, Paired R ws ys → P ys) : lcP g dYes te ρ (ws.map enc) [] P := lcP_relE' enc R ws [] P h (by simpa using p)
theorem paired_typed {α : Type} {R : α → Dt → Prop} {C : α → Int → Prop} (hR : ∀ x y, R x y → ∃ i, y = .int i ∧ C x i) : ∀ {xs : List α} {ys : List Dt}, Paired R xs ys → ∃ is : List Int, ys = is.map .int ∧ Paired C xs is
  | _, _, .nil => ⟨[], rfl, .nil⟩
  | _, _, .cons h t => by
    obtain ⟨i, rfl, hi⟩ := hR _ _ h
    obtain ⟨is, rfl, hc⟩ := paired_typed hR t
    exact ⟨i :: is, rfl, .cons hi hc⟩
theorem rests_ok : ∀ {ws : List Wr} {rs : List Int}, Paired (fun (w : Wr) r => w.low ≤ r ∧ r ≤ w.high) ws rs → restsOk (rs.map .int) (ws.map fun w => (w.low, w.high)) = true
  | _, _, .nil => rfl
  | _, _, .cons h t => by simp [restsOk, whole_in h.1 h.2, rests_ok t]
theorem pace_ok {p : Plan} {rs : List Int} (h : Paired (fun (w : Wr) r => w.low ≤ r ∧ r ≤ w.high) p.writes rs) : areRests (pacesD rs) p.bounds = true := by
  have hl := Paired.length h
  simp [areRests, pacesD, Plan.bounds, rests_ok h, hl]
theorem letters : isLetter (.str "a") = true ∧ isLetter (.str "b") = true ∧ isLetter (.str "c") = true ∧ isLetter (.str "A") = false ∧ isLetter (.str "ab") = false := by decide +kernel
theorem Drawn.letter {m w : Int} {p : Plan} (h : Drawn m w p) {x : Wr} (hx : x ∈ p.writes) : isLetter (.str x.sign) = true ∧ x.sign.length = 1 := by
  rcases h.sign x hx with e | e | e <;> rw [e]
  · exact ⟨letters.1, rfl⟩
  · exact ⟨letters.2.1, rfl⟩
  · exact ⟨letters.2.2.1, rfl⟩
theorem smDs_ints : ∀ l : List Int, smDs (l.map .int) = true
  | [] => rfl
  | _ :: l => by simp [smDs, smD, smDs_ints l]
theorem smDs_all {α : Type} {f : α → Dt} : ∀ {l : List α}, (∀ x ∈ l, smD (f x) = true) → smDs (l.map f) = true
  | [], _ => rfl
  | x :: l, h => by
    have ih : smDs (l.map f) = true := smDs_all fun y hy => h y (List.mem_cons_of_mem _ hy)
    simp [smDs, h x (by simp), ih]
theorem Drawn.ok {m w : Int} {p : Plan} (h : Drawn m w p) (hm : m ≤ 8) (hw : w ≤ 40) : p.ok := by
  have h1 := h.cells
  have h2 := h.stays
  have h3 := h.many
  refine ⟨?_, ?_, h.ink, by omega, by omega, fun x hx => (h.letter hx).2⟩
  · simp only [Plan.d, isPlan, elems, intOf, Bool.and_eq_true, List.all_eq_true]
    refine ⟨⟨⟨⟨whole_in h1.1 (by omega), ?_⟩, ?_⟩, fun x hx => ?_⟩, fun x hx => ?_⟩
    · simp only [isRow, List.length_map, Bool.and_eq_true, decide_eq_true_eq]
      omega
    · simp only [isRow, List.length_map, Bool.and_eq_true, decide_eq_true_eq]
      omega
    · obtain ⟨s, hs, rfl⟩ := List.mem_map.mp hx
      have := h.stay s hs
      exact whole_in this.1 (by omega)
    · obtain ⟨y, hy, rfl⟩ := List.mem_map.mp hx
      have a := h.cell y hy
      have b := h.ink y hy
      have c := h.low y hy
      have d := h.high y hy
      simp only [Wr.d, isWrite, isSpan, Bool.and_eq_true, decide_eq_true_eq, List.length_map]
      exact ⟨⟨⟨whole_in a.1 (by omega), (h.letter hy).1⟩, whole_in b.1 (by omega)⟩, ⟨by omega, by omega⟩, whole_in d.1 (by omega)⟩
  · simp only [Plan.d, smD, smDs, Bool.and_eq_true, smDs_ints, true_and, and_true]
    refine smDs_all fun x hx => ?_
    simp [Wr.d, smD, smDs, (h.letter hx).2]
theorem no_row {ρ : List PV} (h : ∀ p ∈ ρ, p ≠ PV.row) : ∀ k : Nat, ρ[k]? ≠ some PV.row := fun k e => h _ (List.mem_of_getElem? e) rfl
theorem good_ints (n : Nat) (l : List Int) (h : l.length ≤ 100000) : good (n + 1) (.tuple (l.map .int)) := ⟨by simpa using h, fun x hx => by
  obtain ⟨i, _, rfl⟩ := List.mem_map.mp hx
  cases n <;> trivial⟩
theorem forP_inv {g : PTG} {tb : PTS} (I : List PV → Prop) (C : Dt → Prop) {nx : List PV → Prop} {rt : Dt → Prop} (step : ∀ x, C x → ∀ ρ, I ρ → ∀ nx' : List PV → Prop, (∀ ρ', I ρ' → nx' ρ') → g x ρ fun ρ1 => tb { nx := nx', rt := rt, ct := nx', bk := nx } ρ1) (fin : ∀ ρ, I ρ → nx ρ) : ∀ (xs : List Dt) (ρ : List PV), (∀ x ∈ xs, C x) → I ρ → forP g tb { nx := nx, rt := rt } xs ρ
  | [], ρ, _, h => fin ρ h
  | x :: xs, ρ, hc, h => step x (hc x (by simp)) ρ h _ fun ρ' h' => forP_inv I C step fin xs ρ' (fun y hy => hc y (by simp [hy])) h'
theorem asg_step {te : PT0} {i : Nat} {t : PTS} {P : PEnds} {ρ : List PV} (d : Dt) (h : ∀ Q : Dt → Prop, Q d → te ρ Q) (k : t P (ρ.set i (.d d))) : sSeq (sAsg te (aName i)) t P ρ := h _ k
end PF
namespace PD
open PySem L2
theorem dict_kd : PyData.dict [] = kd [] := rfl
theorem map_keyD_inj : ∀ {a b : List (Key × Dt)}, (a.map fun p => (keyD p.1, p.2)) = (b.map fun p => (keyD p.1, p.2)) → a = b
  | [], [], _ => rfl
  | [], _ :: _, h => by cases h
  | _ :: _, [], h => by cases h
  | (k, x) :: a, (j, y) :: b, h => by
    rw [List.map_cons, List.map_cons] at h
    have h1 := (List.cons.inj h).1
    have h2 := map_keyD_inj (List.cons.inj h).2
    have h3 := keyD_inj (Prod.mk.inj h1).1
    have h4 := (Prod.mk.inj h1).2
    cases h3
    subst h2
    have : x = y := h4
    rw [this]
theorem kd_inj {a b : List (Key × Dt)} : (kd a = kd b) = (a = b) := by
  apply propext
  constructor
  · intro h
    unfold kd at h
    exact map_keyD_inj (PyData.dict.inj h)
  · intro h; rw [h]
theorem str_keyD {z : Str} {k : Key} : (PyData.str z = keyD k) = (k = Sum.inr z) := by
  apply propext
  cases k with
  | inl i => simp [keyD]
  | inr s => simp [keyD]; exact eq_comm
theorem int_keyD {z : Int} {k : Key} : (PyData.int z = keyD k) = (k = Sum.inl z) := by
  apply propext
  cases k with
  | inl i => simp [keyD]; exact eq_comm
  | inr s => simp [keyD]
end PD
namespace PF
open PySem L2 PD

/-! ### readers, cases, differences, options as data -/
structure Lk where
  cell : Int
  low : Int
  high : Int
def Lk.d (l : Lk) : Dt := .tuple [.int l.cell, .int l.low, .int l.high]
def numD : Option Nat → Dt
  | none => .none
  | some k => .int k
structure Rdr where
  start : Option Nat
  looks : List Lk
def Rdr.d (r : Rdr) : Dt := .tuple [numD r.start, .tuple (r.looks.map Lk.d)]
abbrev Case := Nat × Option Nat
def caseD (c : Case) : Dt := .tuple [.int c.1, numD c.2]
abbrev Tri := Nat × Nat × Int
def triD (t : Tri) : Dt := .tuple [.int t.1, .int t.2.1, .int t.2.2]
abbrev Pr := Nat × Int
def prD (t : Pr) : Dt := .tuple [.int t.1, .int t.2]
def prsD (l : List Pr) : Dt := .list (l.map prD)
structure Opt where
  sign : Str
  fl : List Pr
  rf : List Pr
def Opt.d (o : Opt) : Dt := .tuple [.str o.sign, prsD o.fl, prsD o.rf]
def optD (o : List Opt) : Dt := .list (o.map Opt.d)
def optsD (o : List (List Opt)) : Dt := .list (o.map optD)
abbrev Sp2 := Nat → Nat → Int
def rowD (n : Nat) (f : Nat → Int) : Dt := .list ((List.range n).map fun y => .int (f y))
def tabD (n : Nat) (s : Sp2) : Dt := .list ((List.range n).map fun x => rowD n (s x))
theorem rd_ix0 {r : Rdr} {P : Dt → Prop} : fIx r.d (.int 0) P = P (numD r.start) := by simp [Rdr.d, fIx_tup, at0]
theorem rd_ix1 {r : Rdr} {P : Dt → Prop} : fIx r.d (.int 1) P = P (.tuple (r.looks.map Lk.d)) := by simp [Rdr.d, fIx_tup, at1]
theorem rd_tup {r : Rdr} {t : PTGs} {ρ : List PV} {P : List PV → Prop} : aTup 2 t r.d ρ P = t [numD r.start, .tuple (r.looks.map Lk.d)] ρ P := by simp [Rdr.d, aTup_tup]
theorem lk_ix0 {l : Lk} {P : Dt → Prop} : fIx l.d (.int 0) P = P (.int l.cell) := by simp [Lk.d, fIx_tup, at0]
theorem lk_ix1 {l : Lk} {P : Dt → Prop} : fIx l.d (.int 1) P = P (.int l.low) := by simp [Lk.d, fIx_tup, at1]
theorem lk_ix2 {l : Lk} {P : Dt → Prop} : fIx l.d (.int 2) P = P (.int l.high) := by simp [Lk.d, fIx_tup, at2]
theorem lk_tup {l : Lk} {t : PTGs} {ρ : List PV} {P : List PV → Prop} : aTup 3 t l.d ρ P = t [.int l.cell, .int l.low, .int l.high] ρ P := by simp [Lk.d, aTup_tup]
theorem cs_ix0 {c : Case} {P : Dt → Prop} : fIx (caseD c) (.int 0) P = P (.int c.1) := by simp [caseD, fIx_tup, at0]
theorem cs_ix1 {c : Case} {P : Dt → Prop} : fIx (caseD c) (.int 1) P = P (numD c.2) := by simp [caseD, fIx_tup, at1]
theorem cs_tup {c : Case} {t : PTGs} {ρ : List PV} {P : List PV → Prop} : aTup 2 t (caseD c) ρ P = t [.int c.1, numD c.2] ρ P := by simp [caseD, aTup_tup]
theorem tr_tup {c : Tri} {t : PTGs} {ρ : List PV} {P : List PV → Prop} : aTup 3 t (triD c) ρ P = t [.int c.1, .int c.2.1, .int c.2.2] ρ P := by simp [triD, aTup_tup]
theorem pr_tup {c : Pr} {t : PTGs} {ρ : List PV} {P : List PV → Prop} : aTup 2 t (prD c) ρ P = t [.int c.1, .int c.2] ρ P := by simp [prD, aTup_tup]
theorem op_tup {c : Opt} {t : PTGs} {ρ : List PV} {P : List PV → Prop} : aTup 3 t c.d ρ P = t [.str c.sign, prsD c.fl, prsD c.rf] ρ P := by simp [Opt.d, aTup_tup]
theorem atI_map {α : Type} {f : α → Dt} {l : List α} {k : Nat} (h : k < l.length) : atI (l.map f) (k : Int) = some (f l[k]) := atI_nat (by simp [h])
theorem atI_range {f : Nat → Dt} {n k : Nat} (h : k < n) : atI ((List.range n).map f) (k : Int) = some (f k) := atI_nat (by simp [h])
theorem tab_ix {n : Nat} {s : Sp2} {x : Nat} {P : Dt → Prop} (h : x < n) (p : P (rowD n (s x))) : fIx (tabD n s) (.int x) P := ⟨_, atI_range h, p⟩
theorem row_ix {n : Nat} {f : Nat → Int} {x : Nat} {P : Dt → Prop} (h : x < n) (p : P (.int (f x))) : fIx (rowD n f) (.int x) P := ⟨_, atI_range h, p⟩
/-- the places of a plan -/
def w0 : Wr := ⟨0, ".", 0, 0, 0⟩
def Plan.at (p : Plan) (k : Nat) : Wr := p.writes.getD k w0
def Plan.stay (p : Plan) (k : Nat) : Int := p.stays.getD (p.at k).ink.toNat 0
def Plan.cell (p : Plan) (k : Nat) : Int := (p.at k).cell
theorem Plan.at_eq {p : Plan} {k : Nat} (h : k < p.writes.length) : p.at k = p.writes[k] := by simp [Plan.at, h]
theorem Plan.at_mem {p : Plan} {k : Nat} (h : k < p.writes.length) : p.at k ∈ p.writes := by rw [Plan.at_eq h]; exact List.getElem_mem h
theorem wr_at {p : Plan} {k : Nat} {P : Dt → Prop} (h : k < p.writes.length) (q : P (p.at k).d) : fIx (.tuple (p.writes.map Wr.d)) (.int k) P := ⟨_, atI_map h, by rw [Plan.at_eq h] at q; exact q⟩
theorem stay_at {p : Plan} {k : Nat} {P : Dt → Prop} (hi : p.inks) (h : k < p.writes.length) (q : P (.int (p.stay k))) : fIx (.tuple (p.stays.map .int)) (.int (p.at k).ink) P := ⟨_, getD_at (hi _ (Plan.at_mem h)).1 (hi _ (Plan.at_mem h)).2, q⟩
def startEv (r : Rdr) : Nat := match r.start with
  | none => 0
  | some k => k + 1
def lookCases (p : Plan) (c : Int) : List Case := (List.range (p.writes.length + 1)).flatMap fun done => (done, none) :: ((List.range done).filter fun k => decide (p.cell k = c)).map fun k => (done, some k)
def caseSign (p : Plan) (c : Case) : Str := match c.2 with
  | none => "."
  | some k => (p.at k).sign
def laterOf : Option Nat → Nat
  | none => 0
  | some k => k + 1
def goneOf (p : Plan) (e : Nat) (c : Int) (cs : Case) : List Tri := ((List.range (cs.1 - laterOf cs.2)).map fun i => laterOf cs.2 + i).filterMap fun k => if p.cell k = c then some (k + 1, e, -p.stay k) else none
def thereOf (p : Plan) (e : Nat) (cs : Case) : List Tri := match cs.2 with
  | none => []
  | some k => [(e, k + 1, p.stay k - 1)]
def caseDiffs (p : Plan) (e : Nat) (c : Int) (cs : Case) : List Tri :=
  (if 0 < cs.1 then [(cs.1, e, 0)] else []) ++ (if cs.1 < p.writes.length then [(e, cs.1 + 1, -1)] else []) ++ thereOf p e cs ++ goneOf p e c cs
structure CaseOk (p : Plan) (c : Int) (cs : Case) : Prop where
  le : cs.1 ≤ p.writes.length
  lt : ∀ k, cs.2 = some k → k < cs.1 ∧ p.cell k = c
def lookAt (r : Rdr) (j : Nat) : Lk := r.looks.getD j ⟨0, 0, 0⟩
def aheadOf (p : Plan) (r : Rdr) (j : Nat) : Nat := if j = 0 then startEv r else p.writes.length + j
def evOf (p : Plan) (j : Nat) : Nat := p.writes.length + 1 + j
def lookDiffs (p : Plan) (r : Rdr) (j : Nat) (cs : Case) : List Tri :=
  [(aheadOf p r j, evOf p j, -(lookAt r j).low), (evOf p j, aheadOf p r j, (lookAt r j).high)] ++ caseDiffs p (evOf p j) (lookAt r j).cell cs
def floorsOf (e : Nat) (l : List Tri) : List Pr := l.filterMap fun t => if t.2.1 = e then some (t.1, t.2.2) else none
def roofsOf (e : Nat) (l : List Tri) : List Pr := l.filterMap fun t => if t.1 = e then some (t.2.1, t.2.2) else none
def lookOpt (p : Plan) (r : Rdr) (j : Nat) (cs : Case) : Opt := ⟨caseSign p cs, floorsOf (evOf p j) (lookDiffs p r j cs), roofsOf (evOf p j) (lookDiffs p r j cs)⟩
def lookOpts (p : Plan) (r : Rdr) (j : Nat) : List Opt := (lookCases p (lookAt r j).cell).map (lookOpt p r j)
def allOpts (p : Plan) (r : Rdr) : List (List Opt) := (List.range r.looks.length).map (lookOpts p r)
/-- what options read -/
def Reads : Sp2 → Nat → List (List Opt) → Str → Prop
  | _, _, [], z => z = ""
  | s, n, o :: os, z => ∃ q ∈ o, Fits s q.fl q.rf ∧ ∃ r, Reads (joinF s n q.fl q.rf) (n + 1) os r ∧ z = q.sign ++ r
def Path (t : Nat → Int) : Nat → List (List Opt) → Str → Prop
  | _, [], z => z = ""
  | n, o :: os, z => ∃ q ∈ o, Between q.fl q.rf t n ∧ ∃ r, Path t (n + 1) os r ∧ z = q.sign ++ r
def OptsOk : Nat → List (List Opt) → Prop
  | _, [] => True
  | n, o :: os => (∀ q ∈ o, Bnds q.fl q.rf n ∧ q.sign.length = 1 ∧ q.fl.length ≤ 1000 ∧ q.rf.length ≤ 1000) ∧ OptsOk (n + 1) os
def cnt : List (List Opt) → Nat
  | [] => 1
  | o :: os => o.length * cnt os
end PF
namespace PF
open PySem L2 PD
local macro_rules | `(tactic| walk_at "pd") => `(tactic| simp only [sRet, sSeq, sIf, sNext, sNever, sAsg, sDrop, sFor, forP, sAug, sApp, sExt, sOwnL, sPar, sRow, dAndV, dOrV, dNotV, dIs, dVar, dC, dChain, dBin, dUn, fNeg, dTest, dTru, dNot, dAnd, dOr, dIf, dCall, dApp, vCons, vNil, vE, vRow, vScr, dCons, dNil, dTup, dLst, dComp, dIter, dRng1, dRng2, dZip, seqD, aName, aTup_tup, aCons, aNil, fIn0, fInt, fAdd, fOrd, fEq, fNe, fIs, fIsNot, isN, fIx_tup, fIx_lst, at0, at1, at2, at3, at_4, eqOk_int, eqv_int, eqOk_bool, eqv_bool, eqOk_str, eqv_str, eqOk_non, eqv_non, eqOk_nil, eqv_nil, decide_true, decide_false,  fLen, fTuple, fList, fAll, fAny, fIntC, truD, frz, startP, wipeP, dYes, dJoin, dIxO, dLenO, dSl, dPart, dNoPart, fSl, sRng1, sOwn2, sPutK, sOwnK, dict_kd, dInO, dIterR, dListO, dInD, dGetD, dIterD, dEnum, fListD, fListS, dIterS, kd_inj, str_keyD, int_keyD, PV.rng.injEq,
  List.map_cons, List.map_nil, List.length_cons, List.length_nil, List.replicate, List.cons_append, List.nil_append, List.append_nil, List.getElem?_cons_zero, List.getElem?_cons_succ, List.set_cons_zero, List.set_cons_succ, Option.some.injEq, PV.d.injEq, PV.own.injEq, PV.scr.injEq, PyData.int.injEq, PyData.bool.injEq, PyData.list.injEq, PyData.tuple.injEq, PyData.str.injEq, List.cons.injEq, exists_eq_left', exists_eq_left, exists_eq', exists_eq_right', and_assoc, exists_and_left, Nat.zero_add, Nat.add_zero, Nat.reduceAdd, Nat.reduceSub, Nat.reduceLT, Nat.sub_self, ite_true, if_true, if_false, Bool.false_eq_true, ite_false, Bool.not_true, Bool.not_false, Bool.true_and, Bool.and_true, Bool.false_and, Bool.and_false, Bool.true_or, Bool.or_true, Bool.false_or, Bool.or_false, Bool.and_self, true_and, and_true])
local macro_rules | `(tactic| walk_at "pt") => `(tactic| try walk_at "pd")
local macro_rules | `(tactic| walk_at "pp") => `(tactic| (simp only [wr_ix0, wr_ix1, wr_ix2, wr_ix3, wr_ix4, pl_ix0, pl_ix1, pl_ix2, pl_tup, rd_ix0, rd_ix1, rd_tup, lk_ix0, lk_ix1, lk_ix2, lk_tup, cs_ix0, cs_ix1, cs_tup, tr_tup, pr_tup, op_tup] <;> walk_at "pt"))
theorem rangeD_nat (n : Nat) : rangeD 0 n = (List.range n).map fun i => .int (i : Nat) := by
  unfold rangeD
  exact List.map_congr_left fun i _ => by simp
theorem sums_at : ∀ (l : List Int) (a : Int) (k : Nat), k ≤ l.length → (a :: sums a l)[k]? = some (a + pre l k)
  | l, a, 0, _ => by simp [pre_zero]
  | [], a, k + 1, h => by simp at h
  | x :: l, a, k + 1, h => by
    have ih := sums_at l (a + x) k (by simpa using h)
    rw [List.getElem?_cons_succ, sums, ih, pre]
    congr 1
    omega
theorem sums_atI {l : List Int} {k : Nat} (h : k ≤ l.length) : atI (PyData.int 0 :: (sums 0 l).map .int) (k : Int) = some (.int (pre l k)) := by
  refine atI_nat ?_
  have := sums_at l 0 k h
  rw [show (PyData.int 0 :: (sums 0 l).map PyData.int) = ((0 :: sums 0 l).map PyData.int) from rfl, List.getElem?_map, this]
  simp
def F_chain_spans : PF := fun as P => ∃ bs : List (Int × Int), as = [.d (boundsD bs)] ∧ bs.length ≤ 1000 ∧ P (tabD (bs.length + 1) (chainF bs))
theorem len_chain_spans : ∀ as P, F_chain_spans as P → as.length = 1 := by rintro _ P ⟨_, rfl, _⟩; rfl
theorem atI_last' {l : List Dt} {x : Dt} : atI (l ++ [x]) (-1) = some x := by
  unfold atI ixN
  have : (if 1 ≤ (l.length : Int) + 1 then some (-1 + ((l.length : Int) + 1)).toNat else none) = some l.length := by
    rw [if_pos (by omega)]
    congr 1
    omega
  simp [this]
theorem go_chain (Q : PEnds) (d : Dt) (t : PTS) : ∀ (bs : List (Int × Int)) (L H : List Dt) (a b : Int) (x3 x4 x5 x6 x7 : PV), L.length + bs.length ≤ 2000 → H.length + bs.length ≤ 2000 →
    (∀ x3 x4, t Q [.d d, .own (.list (L ++ (a :: sums a (bs.map (·.1))).map .int)), .own (.list (H ++ (b :: sums b (bs.map (·.2))).map .int)), x3, x4, x5, x6, x7]) →
    forP (aTup 2 (aCons (aName 3) (aCons (aName 4) aNil))) (sSeq (sApp 1 (dBin fAdd (dIxO 1 (dUn fNeg (dC (.int 1)))) (dVar 3))) (sApp 2 (dBin fAdd (dIxO 2 (dUn fNeg (dC (.int 1)))) (dVar 4)))) { Q with nx := t Q } (bs.map fun b => .tuple [.int b.1, .int b.2]) [.d d, .own (.list (L ++ [.int a])), .own (.list (H ++ [.int b])), x3, x4, x5, x6, x7]
  | [], L, H, a, b, x3, x4, x5, x6, x7, _, _, q => by
    walk_at "pd"
    simpa [sums] using q x3 x4
  | c :: bs, L, H, a, b, x3, x4, x5, x6, x7, h1, h2, q => by
    walk_at "pd"
    simp only [List.length_cons] at h1 h2
    refine ⟨_, atI_last', ?_⟩
    walk_at "pd"
    refine ⟨by simp only [List.length_append, List.length_cons, List.length_nil]; rw [line_eq]; omega, _, atI_last', ?_⟩
    walk_at "pd"
    refine ⟨by simp only [List.length_append, List.length_cons, List.length_nil]; rw [line_eq]; omega, ?_⟩
    refine go_chain Q d t bs (L ++ [.int a]) (H ++ [.int b]) _ _ _ _ _ _ _ (by simp only [List.length_append, List.length_cons, List.length_nil]; omega) (by simp only [List.length_append, List.length_cons, List.length_nil]; omega) fun y3 y4 => ?_
    simpa [sums] using q y3 y4
def rd_chain_spans : PTS :=
  (sSeq (sOwn2 1 2 0 0)
  (sSeq (sFor (dIter (dVar 0)) (aTup 2 (aCons (aName 3) (aCons (aName 4) aNil))) (sSeq (sApp 1 (dBin fAdd (dIxO 1 (dUn fNeg (dC (.int 1)))) (dVar 3)))
  (sApp 2 (dBin fAdd (dIxO 2 (dUn fNeg (dC (.int 1)))) (dVar 4)))))
  (sSeq (sRng1 5 (dLenO 1))
  (sRet (dComp (dIterR 5) (aName 6) dYes (dComp (dIterR 5) (aName 7) dYes (dIf (dTest (dBin fGt (dVar 6) (dVar 7))) (dBin fSub (dBin fIx (dVar 2) (dVar 6)) (dBin fIx (dVar 2) (dVar 7))) (dBin fSub (dBin fIx (dVar 1) (dVar 6)) (dBin fIx (dVar 1) (dVar 7)))) [7]) [6])))))

theorem holds_chain_spans : ∀ as Q, F_chain_spans as Q → rd_chain_spans { nx := fun _ => Q .none, rt := Q } (startP ["bounds", "lows", "highs", "low", "high", "events", "x", "y"] as) := by
  rintro _ Q ⟨bs, rfl, hl, q⟩
  unfold rd_chain_spans boundsD
  rw [sSeq]
  walk_at "pd"
  intro _
  refine go_chain { nx := fun _ => Q .none, rt := Q } _ _ bs [] [] 0 0 _ _ _ _ _ (by simp; omega) (by simp; omega) fun x3 x4 => ?_
  walk_at "pd"
  have e1 : (sums 0 (bs.map (·.1))).length = bs.length := by rw [sums_length, List.length_map]
  have e2 : (sums 0 (bs.map (·.2))).length = bs.length := by rw [sums_length, List.length_map]
  rw [List.length_map, e1]
  refine ⟨by omega, by omega, by omega, by omega, fun _ => ?_⟩
  rw [show (((bs.length + 1 : Nat) : Int) - 0).toNat = bs.length + 1 by omega, rangeD_nat]
  refine lcP_enc (fun i : Nat => .int (i : Nat)) (fun x => rowD (bs.length + 1) (chainF bs x)) _ _ (fun x hx P' p' => ?_) q
  walk_at "pd"
  refine ⟨by omega, by omega, by omega, by omega, fun _ => ?_⟩
  have hx := List.mem_range.mp hx
  rw [show (((bs.length + 1 : Nat) : Int) - 0).toNat = bs.length + 1 by omega, rangeD_nat]
  refine lcP_enc (fun i : Nat => .int (i : Nat)) (fun y => .int (chainF bs x y)) _ _ (fun y hy P2 p2 => ?_) p'
  have hy := List.mem_range.mp hy
  walk_at "pd"
  unfold chainF at p2
  refine ite_b (fun h => ?_) fun h => ?_
  · have h := of_decide_eq_true h
    rw [if_pos (by omega)] at p2
    exact ⟨_, sums_atI (by simp; omega), _, sums_atI (by simp; omega), p2⟩
  · have h := of_decide_eq_false h
    rw [if_neg (by omega)] at p2
    exact ⟨_, sums_atI (by simp; omega), _, sums_atI (by simp; omega), p2⟩

/-! clash, fits -/
def F_clash : PF := fun as P => ∃ (n : Nat) (s : Sp2) (fl rf : List Pr), as = [.d (tabD n s), .d (prsD fl), .d (prsD rf)] ∧ (∀ p ∈ fl, p.1 < n) ∧ (∀ p ∈ rf, p.1 < n) ∧ (Fits s fl rf → P .none) ∧ (∀ r ∈ rf, ∀ f ∈ fl, s r.1 f.1 + r.2 + f.2 < 0 → P (.tuple [.int r.1, .int f.1]))
theorem len_clash : ∀ as P, F_clash as P → as.length = 3 := by rintro _ P ⟨_, _, _, _, rfl, _⟩; rfl
def F_fits : PF := fun as P => ∃ (n : Nat) (s : Sp2) (fl rf : List Pr), as = [.d (tabD n s), .d (prsD fl), .d (prsD rf)] ∧ (∀ p ∈ fl, p.1 < n) ∧ (∀ p ∈ rf, p.1 < n) ∧ (Fits s fl rf → P (.bool true)) ∧ (¬ Fits s fl rf → P (.bool false))
theorem len_fits : ∀ as P, F_fits as P → as.length = 3 := by rintro _ P ⟨_, _, _, _, rfl, _⟩; rfl

def rd_clash : PTS :=
  (sSeq (sFor (dIter (dVar 2)) (aTup 2 (aCons (aName 3) (aCons (aName 4) aNil))) (sSeq (sAsg (dBin fIx (dVar 0) (dVar 3)) (aName 5))
  (sFor (dIter (dVar 1)) (aTup 2 (aCons (aName 6) (aCons (aName 7) aNil))) (sIf (dTest (dBin fLt (dBin fAdd (dBin fAdd (dBin fIx (dVar 5) (dVar 6)) (dVar 4)) (dVar 7)) (dC (.int 0)))) (sRet (dTup (dCons (dVar 3) (dCons (dVar 6) dNil)))) sNext))))
  (sRet (dC .none)))

theorem fits_cons {s : Sp2} {fl rf : List Pr} {r : Pr} : Fits s fl (r :: rf) ↔ (∀ f ∈ fl, 0 ≤ s r.1 f.1 + r.2 + f.2) ∧ Fits s fl rf := by
  simp [Fits]
/-- the inner loop: a floor with no room, or none -/
theorem go_clash2 (Q : PEnds) (n : Nat) (s : Sp2) (sd fd rd' : Dt) (r : Pr) (hr : r.1 < n) (C : List PV → Prop) : ∀ (fl : List Pr) (x6 x7 : PV), (∀ p ∈ fl, p.1 < n) →
    (∀ f ∈ fl, s r.1 f.1 + r.2 + f.2 < 0 → Q.rt (.tuple [.int r.1, .int f.1])) → ((∀ f ∈ fl, 0 ≤ s r.1 f.1 + r.2 + f.2) → ∀ x6 x7, Q.nx [.d sd, .d fd, .d rd', .d (.int r.1), .d (.int r.2), .d (rowD n (s r.1)), x6, x7]) →
    forP (aTup 2 (aCons (aName 6) (aCons (aName 7) aNil))) (sIf (dTest (dBin fLt (dBin fAdd (dBin fAdd (dBin fIx (dVar 5) (dVar 6)) (dVar 4)) (dVar 7)) (dC (.int 0)))) (sRet (dTup (dCons (dVar 3) (dCons (dVar 6) dNil)))) sNext) Q (fl.map prD) [.d sd, .d fd, .d rd', .d (.int r.1), .d (.int r.2), .d (rowD n (s r.1)), x6, x7]
  | [], x6, x7, _, _, q => by
    walk_at "pd"
    exact q (by simp) _ _
  | f :: fl, x6, x7, hf, hb, q => by
    walk_at "pd"
    walk_at "pp"
    refine row_ix (hf f (by simp)) ?_
    walk_at "pd"
    refine ite_b (fun h => ?_) fun h => ?_
    · have h := of_decide_eq_true h
      exact ⟨by decide, hb f (by simp) h⟩
    · have h := of_decide_eq_false h
      refine go_clash2 Q n s sd fd rd' r hr C fl _ _ (fun p hp => hf p (by simp [hp])) (fun g hg => hb g (by simp [hg])) fun hall => ?_
      intro y6 y7
      refine q (fun g hg => ?_) y6 y7
      rcases List.mem_cons.mp hg with rfl | hg
      · omega
      · exact hall g hg

theorem go_clash1 (Q : PEnds) (n : Nat) (s : Sp2) (fl : List Pr) (rd' : Dt) (hf : ∀ p ∈ fl, p.1 < n) : ∀ (rf : List Pr) (x3 x4 x5 x6 x7 : PV), (∀ p ∈ rf, p.1 < n) →
    (∀ r ∈ rf, ∀ f ∈ fl, s r.1 f.1 + r.2 + f.2 < 0 → Q.rt (.tuple [.int r.1, .int f.1])) → (Fits s fl rf → ∀ x3 x4 x5 x6 x7, Q.nx [.d (tabD n s), .d (prsD fl), .d rd', x3, x4, x5, x6, x7]) →
    forP (aTup 2 (aCons (aName 3) (aCons (aName 4) aNil))) (sSeq (sAsg (dBin fIx (dVar 0) (dVar 3)) (aName 5))
      (sFor (dIter (dVar 1)) (aTup 2 (aCons (aName 6) (aCons (aName 7) aNil))) (sIf (dTest (dBin fLt (dBin fAdd (dBin fAdd (dBin fIx (dVar 5) (dVar 6)) (dVar 4)) (dVar 7)) (dC (.int 0)))) (sRet (dTup (dCons (dVar 3) (dCons (dVar 6) dNil)))) sNext))) Q (rf.map prD) [.d (tabD n s), .d (prsD fl), .d rd', x3, x4, x5, x6, x7]
  | [], x3, x4, x5, x6, x7, _, _, q => by
    walk_at "pd"
    exact q (by simp [Fits]) _ _ _ _ _
  | r :: rf, x3, x4, x5, x6, x7, hr, hb, q => by
    walk_at "pd"
    walk_at "pp"
    refine tab_ix (hr r (by simp)) ?_
    unfold prsD
    walk_at "pd"
    intro _
    refine go_clash2 _ n s _ _ _ r (hr r (by simp)) (fun _ => True) fl _ _ hf (fun f hf' h => hb r (by simp) f hf' h) fun hall y6 y7 => ?_
    exact go_clash1 Q n s fl rd' hf rf _ _ _ _ _ (fun p hp => hr p (by simp [hp])) (fun r' hr' f hf' h => hb r' (by simp [hr']) f hf' h) fun hF => q (fits_cons.mpr ⟨hall, hF⟩)
theorem holds_clash : ∀ as Q, F_clash as Q → rd_clash { nx := fun _ => Q .none, rt := Q } (startP ["spans", "floors", "roofs", "y", "more", "row", "x", "less"] as) := by
  rintro _ Q ⟨n, s, fl, rf, rfl, hf, hr, q1, q2⟩
  unfold rd_clash
  walk_at "pd"
  rw [show prsD rf = .list (rf.map prD) from rfl]
  walk_at "pd"
  intro _
  refine go_clash1 { nx := fun _ => Q .none, rt := Q } n s fl _ hf rf _ _ _ _ _ hr q2 fun hF x3 x4 x5 x6 x7 => ?_
  exact q1 hF
def rd_fits : PTS :=
  (sRet (dBin fIs (dCall F_clash (vCons (vE (dVar 0)) (vCons (vE (dVar 1)) (vCons (vE (dVar 2)) vNil)))) (dC .none)))

theorem holds_fits : ∀ as Q, F_fits as Q → rd_fits { nx := fun _ => Q .none, rt := Q } (startP ["spans", "floors", "roofs"] as) := by
  rintro _ Q ⟨n, s, fl, rf, rfl, hf, hr, q1, q2⟩
  unfold rd_fits
  walk_at "pd"
  refine ⟨n, s, fl, rf, rfl, hf, hr, fun hF => ?_, fun r hr' f hf' h => ?_⟩
  · walk_at "pd"
    exact q1 hF
  · walk_at "pd"
    refine q2 fun hF => ?_
    have := hF r hr' f hf'
    omega
/-! latest -/
def F_latest : PF := fun as P => ∃ (n : Nat) (s : Sp2), as = [.d (tabD n s)] ∧ 0 < n ∧ P (rowD n fun x => s x 0)
theorem len_latest : ∀ as P, F_latest as P → as.length = 1 := by rintro _ P ⟨_, _, rfl, _⟩; rfl
def rd_latest : PTS :=
  (sRet (dComp (dIter (dVar 0)) (aName 1) dYes (dBin fIx (dVar 1) (dC (.int 0))) [1]))

theorem holds_latest : ∀ as Q, F_latest as Q → rd_latest { nx := fun _ => Q .none, rt := Q } (startP ["spans", "row"] as) := by
  rintro _ Q ⟨n, s, rfl, h0, q⟩
  unfold rd_latest tabD
  walk_at "pd"
  intro _
  refine lcP_enc (fun x : Nat => rowD n (s x)) (fun x => .int (s x 0)) _ _ (fun x hx P' p' => ?_) q
  walk_at "pd"
  exact row_ix (x := 0) h0 p'
/-! joined -/
def F_joined : PF := fun as P => ∃ (n : Nat) (s : Sp2) (fl rf : List Pr), as = [.d (tabD n s), .d (prsD fl), .d (prsD rf)] ∧ n ≤ 1000 ∧ Bnds fl rf n ∧ P (tabD (n + 1) (joinF s n fl rf))
theorem len_joined : ∀ as P, F_joined as P → as.length = 3 := by rintro _ P ⟨_, _, _, _, rfl, _⟩; rfl
theorem ints_at {α : Type} (f : α → Int) (l : List α) : dInts (l.map fun x => PyData.int (f x)) = some (l.map f) := by
  have := ints_map (l.map f)
  rw [List.map_map] at this
  exact this
theorem min_ints {α : Type} {f : α → Int} {l : List α} {P : Dt → Prop} (h : l ≠ []) (p : P (.int (minL (l.map f)))) : fMin [.list (l.map fun x => PyData.int (f x))] P := by
  refine ⟨_, ints_at f l, ?_, fun m h1 h2 => ?_⟩
  · rw [List.length_map]
    exact List.length_pos_iff.mpr h
  · rw [Least.minL ⟨h1, h2⟩]
    exact p
theorem zip_same {α : Type} (f g : α → Dt) : ∀ l : List α, zipD (l.map f) (l.map g) = l.map fun x => .tuple [f x, g x]
  | [] => rfl
  | x :: l => by
    have := zip_same f g l
    simp only [zipD] at this ⊢
    simp [this]
theorem row_join {n : Nat} {s : Sp2} {fl rf : List Pr} {x : Nat} (h : x < n) : (List.range n).map (fun y => PyData.int (min (s x y) (below s fl x + above s rf y))) ++ [.int (below s fl x)] = (List.range (n + 1)).map fun y => PyData.int (joinF s n fl rf x y) := by
  rw [List.range_succ, List.map_append]
  congr 1
  · refine List.map_congr_left fun y hy => ?_
    have := List.mem_range.mp hy
    simp [joinF, h, this]
  · simp [joinF, h]
theorem row_join' {n : Nat} {s : Sp2} {fl rf : List Pr} : (List.range n).map (fun y => PyData.int (above s rf y)) ++ [.int 0] = (List.range (n + 1)).map fun y => PyData.int (joinF s n fl rf n y) := by
  rw [List.range_succ, List.map_append]
  congr 1
  · refine List.map_congr_left fun y hy => ?_
    have := List.mem_range.mp hy
    simp [joinF, this]
  · simp [joinF]
theorem min_ite (i j : Int) : (if j < i then j else i) = min i j := by
  split <;> omega
theorem go_join (Q : PEnds) (t : PTS) (n : Nat) (s : Sp2) (fl rf : List Pr) (hn : n ≤ 1000) (d0 d1 d2 d5 : Dt) (x3 x9 x10 x11 x12 x13 : PV) : ∀ (xs ys : List Nat) (x7 x8 x14 x15 : PV), (∀ x ∈ ys, x < n) → xs.length + ys.length ≤ 1000 →
    (∀ x7 x8 x14 x15, t Q [.d d0, .d d1, .d d2, x3, .d (.list ((List.range n).map fun y => .int (above s rf y))), .d d5, .own (.list ((xs ++ ys).map fun x => rowD (n + 1) (joinF s n fl rf x))), x7, x8, x9, x10, x11, x12, x13, x14, x15]) →
    forP (aTup 2 (aCons (aName 7) (aCons (aName 8) aNil)))
      (sApp 6 (dBin fAdd (dComp (dZip (dCons (dVar 7) (dCons (dVar 4) dNil))) (aTup 2 (aCons (aName 14) (aCons (aName 15) aNil))) dYes (dApp fMin (dCons (dVar 14) (dCons (dBin fAdd (dVar 8) (dVar 15)) dNil))) [14, 15]) (dLst (dCons (dVar 8) dNil)))) { Q with nx := t Q }
      (ys.map fun x => .tuple [rowD n (s x), .int (below s fl x)])
      [.d d0, .d d1, .d d2, x3, .d (.list ((List.range n).map fun y => .int (above s rf y))), .d d5, .own (.list (xs.map fun x => rowD (n + 1) (joinF s n fl rf x))), x7, x8, x9, x10, x11, x12, x13, x14, x15]
  | xs, [], x7, x8, x14, x15, _, _, q => by
    rw [List.append_nil] at q
    exact q _ _ _ _
  | xs, x :: ys, x7, x8, x14, x15, h, hl, q => by
    have hx := h x (by simp)
    simp only [List.length_cons] at hl
    walk_at "pd"
    rw [show rowD n (s x) = PyData.list ((List.range n).map fun y => .int (s x y)) from rfl]
    walk_at "pd"
    rw [zip_same]
    intro _
    refine lcP_enc (fun y : Nat => .tuple [.int (s x y), .int (above s rf y)]) (fun y => .int (min (s x y) (below s fl x + above s rf y))) _ _ (fun y hy P' p' => ?_) ?_
    · walk_at "pd"
      rw [fMin]
      rw [min_ite]
      exact p'
    · refine ⟨by decide, ?_⟩
      walk_at "pt"
      refine ⟨by simp; rw [line_eq]; omega, by simp; rw [line_eq]; omega, ?_⟩
      rw [row_join hx, show xs.map (fun x => rowD (n + 1) (joinF s n fl rf x)) ++ [PyData.list ((List.range (n + 1)).map fun y => .int (joinF s n fl rf x y))] = (xs ++ [x]).map fun x => rowD (n + 1) (joinF s n fl rf x) by simp [rowD]]
      have := go_join Q t n s fl rf hn d0 d1 d2 d5 x3 x9 x10 x11 x12 x13 (xs ++ [x]) ys
      refine this _ _ _ _ (fun y hy => h y (by simp [hy])) (by simp; omega) fun y7 y8 y14 y15 => ?_
      rw [List.append_assoc]
      exact q _ _ _ _
def rd_joined : PTS :=
  (sSeq (sRng1 3 (dApp fLen (dCons (dVar 0) dNil)))
  (sSeq (sAsg (dComp (dIterR 3) (aName 9) dYes (dApp fMin (dCons (dComp (dIter (dVar 2)) (aTup 2 (aCons (aName 10) (aCons (aName 11) aNil))) dYes (dBin fAdd (dBin fIx (dBin fIx (dVar 0) (dVar 10)) (dVar 9)) (dVar 11)) [10, 11]) dNil)) [9]) (aName 4))
  (sSeq (sAsg (dComp (dIterR 3) (aName 9) dYes (dApp fMin (dCons (dComp (dIter (dVar 1)) (aTup 2 (aCons (aName 12) (aCons (aName 13) aNil))) dYes (dBin fAdd (dBin fIx (dBin fIx (dVar 0) (dVar 9)) (dVar 12)) (dVar 13)) [12, 13]) dNil)) [9]) (aName 5))
  (sSeq (sOwnL 6 dNil)
  (sSeq (sFor (dZip (dCons (dVar 0) (dCons (dVar 5) dNil))) (aTup 2 (aCons (aName 7) (aCons (aName 8) aNil))) (sApp 6 (dBin fAdd (dComp (dZip (dCons (dVar 7) (dCons (dVar 4) dNil))) (aTup 2 (aCons (aName 14) (aCons (aName 15) aNil))) dYes (dApp fMin (dCons (dVar 14) (dCons (dBin fAdd (dVar 8) (dVar 15)) dNil))) [14, 15]) (dLst (dCons (dVar 8) dNil)))))
  (sSeq (sApp 6 (dBin fAdd (dVar 4) (dLst (dCons (dC (.int 0)) dNil))))
  (sRet (dVar 6))))))))

theorem holds_joined : ∀ as Q, F_joined as Q → rd_joined { nx := fun _ => Q .none, rt := Q } (startP ["spans", "floors", "roofs", "events", "above", "below", "wider", "row", "low", "event", "y", "more", "x", "less", "span", "high"] as) := by
  rintro _ Q ⟨n, s, fl, rf, rfl, hn, B, q⟩
  unfold rd_joined tabD prsD
  walk_at "pd"
  rw [List.length_map, List.length_range]
  have hz : ((n : Int) - 0).toNat = n := by omega
  refine ⟨by omega, by omega, by omega, by omega, fun _ => ?_⟩
  rw [hz, rangeD_nat]
  refine lcP_enc (fun i : Nat => .int (i : Nat)) (fun y => .int (above s rf y)) _ _ (fun y hy P' p' => ?_) ?_
  · have hy := List.mem_range.mp hy
    walk_at "pd"
    intro _
    refine lcP_enc prD (fun r => .int (s r.1 y + r.2)) _ _ (fun r hr P2 p2 => ?_) (min_ints B.r0 p')
    walk_at "pd"
    walk_at "pp"
    refine ⟨_, atI_range (B.r r hr), ?_⟩
    refine row_ix hy ?_
    walk_at "pd"
    exact p2
  refine ⟨by omega, by omega, by omega, by omega, fun _ => ?_⟩
  refine lcP_enc (fun i : Nat => .int (i : Nat)) (fun y => .int (below s fl y)) _ _ (fun y hy P' p' => ?_) ?_
  · have hy := List.mem_range.mp hy
    walk_at "pd"
    intro _
    refine lcP_enc prD (fun r => .int (s y r.1 + r.2)) _ _ (fun r hr P2 p2 => ?_) (min_ints B.f0 p')
    walk_at "pd"
    walk_at "pp"
    refine ⟨_, atI_range hy, ?_⟩
    refine row_ix (B.f r hr) ?_
    walk_at "pd"
    exact p2
  refine ⟨by decide, ?_⟩
  rw [zip_same]
  intro _
  refine go_join { nx := fun _ => Q .none, rt := Q } _ n s fl rf hn _ _ _ _ _ _ _ _ _ _ [] (List.range n) _ _ _ _ (fun x hx => List.mem_range.mp hx) (by simp; omega) fun x7 x8 x14 x15 => ?_
  walk_at "pd"
  refine ⟨by decide, ?_⟩
  refine ⟨by simp; rw [line_eq]; omega, by simp; rw [line_eq]; omega, ?_⟩
  rw [row_join' (fl := fl)]
  unfold tabD at q
  rw [List.range_succ, List.map_append] at q
  exact q

end PF
namespace PF
open PySem L2 PD
local macro_rules | `(tactic| walk_at "pd") => `(tactic| simp only [sRet, sSeq, sIf, sNext, sNever, sAsg, sDrop, sFor, forP, sAug, sApp, sExt, sOwnL, sPar, sRow, dAndV, dOrV, dNotV, dIs, dVar, dC, dChain, dBin, dUn, fNeg, dTest, dTru, dNot, dAnd, dOr, dIf, dCall, dApp, vCons, vNil, vE, vRow, vScr, dCons, dNil, dTup, dLst, dComp, dIter, dRng1, dRng2, dZip, seqD, aName, aTup_tup, aCons, aNil, fIn0, fInt, fAdd, fOrd, fEq, fNe, fIs, fIsNot, isN, fIx_tup, fIx_lst, at0, at1, at2, at3, at_4, eqOk_int, eqv_int, eqOk_bool, eqv_bool, eqOk_str, eqv_str, eqOk_non, eqv_non, eqOk_nil, eqv_nil, decide_true, decide_false,  fLen, fTuple, fList, fAll, fAny, fIntC, truD, frz, startP, wipeP, dYes, dJoin, dIxO, dLenO, dSl, dPart, dNoPart, fSl, sRng1, sOwn2, sPutK, sOwnK, dict_kd, dInO, dIterR, dListO, dInD, dGetD, dIterD, dEnum, fListD, fListS, dIterS, kd_inj, str_keyD, int_keyD, PV.rng.injEq,
  List.map_cons, List.map_nil, List.length_cons, List.length_nil, List.replicate, List.cons_append, List.nil_append, List.append_nil, List.getElem?_cons_zero, List.getElem?_cons_succ, List.set_cons_zero, List.set_cons_succ, Option.some.injEq, PV.d.injEq, PV.own.injEq, PV.scr.injEq, PyData.int.injEq, PyData.bool.injEq, PyData.list.injEq, PyData.tuple.injEq, PyData.str.injEq, List.cons.injEq, exists_eq_left', exists_eq_left, exists_eq', exists_eq_right', and_assoc, exists_and_left, Nat.zero_add, Nat.add_zero, Nat.reduceAdd, Nat.reduceSub, Nat.reduceLT, Nat.sub_self, ite_true, if_true, if_false, Bool.false_eq_true, ite_false, Bool.not_true, Bool.not_false, Bool.true_and, Bool.and_true, Bool.false_and, Bool.and_false, Bool.true_or, Bool.or_true, Bool.false_or, Bool.or_false, Bool.and_self, true_and, and_true])
local macro_rules | `(tactic| walk_at "pt") => `(tactic| try walk_at "pd")
local macro_rules | `(tactic| walk_at "pp") => `(tactic| (simp only [wr_ix0, wr_ix1, wr_ix2, wr_ix3, wr_ix4, pl_ix0, pl_ix1, pl_ix2, pl_tup, rd_ix0, rd_ix1, rd_tup, lk_ix0, lk_ix1, lk_ix2, lk_tup, cs_ix0, cs_ix1, cs_tup, tr_tup, pr_tup, op_tup] <;> walk_at "pt"))
theorem lcP_encf' {α : Type} {g : PTG} {tt : PTT} {te : PT0} {ρ : List PV} (enc f : α → Dt) (b : α → Bool) : ∀ (ws : List α) (acc : List Dt) (P : List Dt → Prop),
    (∀ w ∈ ws, ∀ (Pt : Dt → Prop) (Pf : Prop), (if b w = true then Pt (f w) else Pf) → g (enc w) ρ fun ρ1 => tt ρ1 fun k => if k = true then te ρ1 Pt else Pf) → P (acc ++ (ws.filter b).map f) → lcP g tt te ρ (ws.map enc) acc P
  | [], acc, P, _, h => by simpa [lcP] using h
  | x :: xs, acc, P, hx, h => by
    rw [List.map_cons]
    unfold lcP
    refine hx x (by simp) _ _ ?_
    by_cases hb : b x = true
    · rw [if_pos hb]
      exact lcP_encf' enc f b xs _ P (fun y hy => hx y (by simp [hy])) (by simpa [List.filter_cons, hb] using h)
    · rw [if_neg hb]
      exact lcP_encf' enc f b xs _ P (fun y hy => hx y (by simp [hy])) (by simpa [List.filter_cons, hb] using h)
theorem lcP_encf {α : Type} {g : PTG} {tt : PTT} {te : PT0} {ρ : List PV} (enc f : α → Dt) (b : α → Bool) (ws : List α) (P : List Dt → Prop)
    (h : ∀ w ∈ ws, ∀ (Pt : Dt → Prop) (Pf : Prop), (if b w = true then Pt (f w) else Pf) → g (enc w) ρ fun ρ1 => tt ρ1 fun k => if k = true then te ρ1 Pt else Pf) (p : P ((ws.filter b).map f)) : lcP g tt te ρ (ws.map enc) [] P := lcP_encf' enc f b ws [] P h (by simpa using p)
/-! ### start_event, look_cases, case_sign -/
def F_start_event : PF := fun as P => ∃ r : Rdr, as = [.d r.d] ∧ P (.int (startEv r))
theorem len_start_event : ∀ as P, F_start_event as P → as.length = 1 := by rintro _ P ⟨_, rfl, _⟩; rfl
def rd_start_event : PTS :=
  (sRet (dIf (dTest (dBin fIs (dBin fIx (dVar 0) (dC (.int 0))) (dC .none))) (dC (.int 0)) (dBin fAdd (dBin fIx (dVar 0) (dC (.int 0))) (dC (.int 1)))))

theorem holds_start_event : ∀ as Q, F_start_event as Q → rd_start_event { nx := fun _ => Q .none, rt := Q } (startP ["reader"] as) := by
  rintro _ Q ⟨r, rfl, q⟩
  unfold rd_start_event
  walk_at "pd"
  walk_at "pp"
  unfold startEv at q
  cases e : r.start with
  | none =>
    rw [e] at q
    simp only [numD]
    walk_at "pd"
    exact q
  | some k =>
    rw [e] at q
    simp only [numD]
    walk_at "pd"
    exact q
/-! ### a plan as data whose writes may have another thing than a number for a cell -/
structure WD (c : Int) (f : Wr → Dt) : Prop where
  ix0 : ∃ g : Wr → Dt, (∀ (w : Wr) (P : Dt → Prop), fIx (f w) (.int 0) P = P (g w)) ∧ ∀ w : Wr, eqOk (g w) (.int c) = true ∧ PyData.eqv (g w) (.int c) = decide (w.cell = c)
  ix1 : ∀ (w : Wr) (P : Dt → Prop), fIx (f w) (.int 1) P = P (.str w.sign)
  ix2 : ∀ (w : Wr) (P : Dt → Prop), fIx (f w) (.int 2) P = P (.int w.ink)
def planF (f : Wr → Dt) (p : Plan) : Dt := .tuple [.int p.cells, .tuple (p.stays.map .int), .tuple (p.writes.map f)]
theorem wd_d (c : Int) : WD c Wr.d := ⟨⟨fun w => .int w.cell, fun w P => wr_ix0, fun w => ⟨by simp only [eqOk_int], by rw [eqv_int]⟩⟩, fun w P => wr_ix1, fun w P => wr_ix2⟩
theorem plF_ix2 {f : Wr → Dt} {p : Plan} {P : Dt → Prop} : fIx (planF f p) (.int 2) P = P (.tuple (p.writes.map f)) := by simp [planF, fIx_tup, at2]
theorem plF_tup {f : Wr → Dt} {p : Plan} {t : PTGs} {ρ : List PV} {P : List PV → Prop} : aTup 3 t (planF f p) ρ P = t [.int p.cells, .tuple (p.stays.map .int), .tuple (p.writes.map f)] ρ P := by simp [planF, aTup_tup]
theorem wr_atF {f : Wr → Dt} {p : Plan} {k : Nat} {P : Dt → Prop} (h : k < p.writes.length) (q : P (f (p.at k))) : fIx (.tuple (p.writes.map f)) (.int k) P := ⟨_, atI_map h, by rw [Plan.at_eq h] at q; exact q⟩
def F_look_cases : PF := fun as P => ∃ (f : Wr → Dt) (p : Plan) (l : Lk), WD l.cell f ∧ as = [.d (planF f p), .d l.d] ∧ p.writes.length ≤ 1000 ∧ P (.list ((lookCases p l.cell).map caseD))
theorem len_look_cases : ∀ as P, F_look_cases as P → as.length = 2 := by rintro _ P ⟨_, _, _, _, rfl, _⟩; rfl
def casesAt (p : Plan) (c : Int) (done : Nat) : List Case := (done, none) :: ((List.range done).filter fun k => decide (p.cell k = c)).map fun k => (done, some k)
theorem casesAt_len (p : Plan) (c : Int) (done : Nat) : (casesAt p c done).length ≤ done + 1 := by
  unfold casesAt
  rw [List.length_cons, List.length_map]
  have := List.length_filter_le (fun k => decide (p.cell k = c)) (List.range done)
  rw [List.length_range] at this
  omega
theorem go_cases (Q : PEnds) (t : PTS) (f : Wr → Dt) (p : Plan) (l : Lk) (wd : WD l.cell f) (hn : p.writes.length ≤ 1000) : ∀ (ds : List Nat) (acc : List Case) (x4 x5 : PV), (∀ d ∈ ds, d ≤ p.writes.length) → acc.length + ds.length * 1002 ≤ 2000000 →
    (∀ x4 x5, t Q [.d (planF f p), .d l.d, .d (.tuple (p.writes.map f)), .own (.list ((acc ++ ds.flatMap (casesAt p l.cell)).map caseD)), x4, x5]) →
    forP (aName 4) (sSeq (sApp 3 (dTup (dCons (dVar 4) (dCons (dC .none) dNil))))
      (sExt 3 (dComp (dRng1 (dCons (dVar 4) dNil)) (aName 5) (dTest (dBin fEq (dBin fIx (dBin fIx (dVar 2) (dVar 5)) (dC (.int 0))) (dBin fIx (dVar 1) (dC (.int 0))))) (dTup (dCons (dVar 4) (dCons (dVar 5) dNil))) [5]))) { Q with nx := t Q }
      (ds.map fun i => .int (i : Nat)) [.d (planF f p), .d l.d, .d (.tuple (p.writes.map f)), .own (.list (acc.map caseD)), x4, x5]
  | [], acc, x4, x5, _, _, q => by
    simpa [forP] using q x4 x5
  | d :: ds, acc, x4, x5, hd, hl, q => by
    have h := hd d (by simp)
    simp only [List.length_cons] at hl
    walk_at "pd"
    refine ⟨by decide, by rw [List.length_map, line_eq]; omega, by omega, by omega, fun _ => ?_⟩
    rw [show ((d : Nat) : Int).toNat = d by omega, rangeD_nat]
    refine lcP_encf (fun i : Nat => .int (i : Nat)) (fun k => caseD (d, some k)) (fun k => decide (p.cell k = l.cell)) _ _ (fun k hk Pt Pf h2 => ?_) ?_
    · have hk := List.mem_range.mp hk
      walk_at "pd"
      obtain ⟨g, hg, he⟩ := wd.ix0
      refine wr_atF (by omega) ?_
      rw [hg]
      walk_at "pp"
      rw [(he _).2]
      refine ⟨(he _).1, ?_⟩
      rw [show (p.at k).cell = p.cell k from rfl]
      by_cases hc : p.cell k = l.cell
      · rw [decide_eq_true hc] at h2 ⊢
        walk_at "pd"
        exact ⟨by decide, by simpa [caseD, numD] using h2⟩
      · rw [decide_eq_false hc] at h2 ⊢
        walk_at "pd"
        simpa using h2
    · have hlen := casesAt_len p l.cell d
      refine ⟨?_, ?_⟩
      · unfold casesAt at hlen
        simp only [List.length_cons, List.length_map] at hlen
        simp only [List.length_append, List.length_map, List.length_cons, List.length_nil]
        rw [line_eq]
        omega
      · have e : acc.map caseD ++ [PyData.tuple [.int d, .none]] ++ ((List.range d).filter fun k => decide (p.cell k = l.cell)).map (fun k => caseD (d, some k)) = (acc ++ casesAt p l.cell d).map caseD := by
          simp [casesAt, caseD, numD]
        rw [e]
        refine go_cases Q t f p l wd hn ds (acc ++ casesAt p l.cell d) _ _ (fun x hx => hd x (by simp [hx])) (by rw [List.length_append]; omega) fun y4 y5 => ?_
        simpa using q y4 y5
def rd_look_cases : PTS :=
  (sSeq (sAsg (dBin fIx (dVar 0) (dC (.int 2))) (aName 2))
  (sSeq (sOwnL 3 dNil)
  (sSeq (sFor (dRng1 (dCons (dBin fAdd (dApp fLen (dCons (dVar 2) dNil)) (dC (.int 1))) dNil)) (aName 4) (sSeq (sApp 3 (dTup (dCons (dVar 4) (dCons (dC .none) dNil))))
  (sExt 3 (dComp (dRng1 (dCons (dVar 4) dNil)) (aName 5) (dTest (dBin fEq (dBin fIx (dBin fIx (dVar 2) (dVar 5)) (dC (.int 0))) (dBin fIx (dVar 1) (dC (.int 0))))) (dTup (dCons (dVar 4) (dCons (dVar 5) dNil))) [5]))))
  (sRet (dVar 3)))))

theorem holds_look_cases : ∀ as Q, F_look_cases as Q → rd_look_cases { nx := fun _ => Q .none, rt := Q } (startP ["plan", "look", "writes", "found", "done", "shown"] as) := by
  rintro _ Q ⟨f, p, l, wd, rfl, hn, q⟩
  unfold rd_look_cases
  walk_at "pd"
  rw [plF_ix2]
  walk_at "pd"
  rw [List.length_map]
  refine ⟨by decide, by omega, by omega, fun _ => ?_⟩
  rw [show (((p.writes.length : Nat) : Int) + 1).toNat = p.writes.length + 1 by omega, rangeD_nat]
  refine go_cases { nx := fun _ => Q .none, rt := Q } _ f p l wd hn _ [] _ _ (fun d hd => by have := List.mem_range.mp hd; omega) (by simp; omega) fun x4 x5 => ?_
  walk_at "pd"
  exact q
def F_case_sign : PF := fun as P => ∃ (f : Wr → Dt) (c : Int) (p : Plan) (cs : Case), WD c f ∧ as = [.d (planF f p), .d (caseD cs)] ∧ (∀ k, cs.2 = some k → k < p.writes.length) ∧ P (.str (caseSign p cs))
theorem len_case_sign : ∀ as P, F_case_sign as P → as.length = 2 := by rintro _ P ⟨_, _, _, _, _, rfl, _⟩; rfl
def rd_case_sign : PTS :=
  (sSeq (sAsg (dBin fIx (dVar 1) (dC (.int 1))) (aName 2))
  (sRet (dIf (dTest (dBin fIs (dVar 2) (dC .none))) (dC (.str ".")) (dBin fIx (dBin fIx (dBin fIx (dVar 0) (dC (.int 2))) (dVar 2)) (dC (.int 1))))))

theorem holds_case_sign : ∀ as Q, F_case_sign as Q → rd_case_sign { nx := fun _ => Q .none, rt := Q } (startP ["plan", "case", "shown"] as) := by
  rintro _ Q ⟨f, c0, p, ⟨d, k⟩, wd, rfl, hk, q⟩
  unfold rd_case_sign
  walk_at "pd"
  walk_at "pp"
  cases k with
  | none =>
    simp only [numD]
    walk_at "pt"
    exact q
  | some k =>
    simp only [numD]
    walk_at "pt"
    rw [plF_ix2]
    walk_at "pt"
    refine wr_atF (hk k rfl) ?_
    rw [wd.ix1]
    exact q

def F_case_differences : PF := fun as P => ∃ (f : Wr → Dt) (p : Plan) (e : Nat) (c : Int) (cs : Case), WD c f ∧ as = [.d (planF f p), .d (.int e), .d (.int c), .d (caseD cs)] ∧ p.inks ∧ p.writes.length ≤ 1000 ∧ cs.1 ≤ p.writes.length ∧ (∀ k, cs.2 = some k → k < cs.1) ∧ P (.list ((caseDiffs p e c cs).map triD))
theorem len_case_differences : ∀ as P, F_case_differences as P → as.length = 4 := by rintro _ P ⟨_, _, _, _, _, _, rfl, _⟩; rfl
theorem go_gone (Q : Dt → Prop) (f : Wr → Dt) (p : Plan) (hi : p.inks) (hn : p.writes.length ≤ 1000) (e : Nat) (c : Int) (wd : WD c f) (d3 : Dt) (x4 x7 x8 x10 : PV) : ∀ (ks : List Nat) (acc : List Tri) (x11 : PV), (∀ k ∈ ks, k < p.writes.length) → acc.length + ks.length ≤ 10000 →
    Q (.list ((acc ++ ks.filterMap fun k => if p.cell k = c then some (k + 1, e, -p.stay k) else none).map triD)) →
    forP (aName 11) (sIf (dTest (dBin fEq (dBin fIx (dBin fIx (dVar 6) (dVar 11)) (dC (.int 0))) (dVar 2))) (sApp 9 (dTup (dCons (dBin fAdd (dVar 11) (dC (.int 1))) (dCons (dVar 1) (dCons (dUn fNeg (dBin fIx (dVar 5) (dBin fIx (dBin fIx (dVar 6) (dVar 11)) (dC (.int 2))))) dNil))))) sNext)
      { nx := sRet (dVar 9) { nx := fun _ => Q .none, rt := Q }, rt := Q } (ks.map fun i => .int (i : Nat)) [.d (planF f p), .d (.int e), .d (.int c), .d d3, x4, .d (.tuple (p.stays.map .int)), .d (.tuple (p.writes.map f)), x7, x8, .own (.list (acc.map triD)), x10, x11]
  | [], acc, x11, _, _, q => by
    walk_at "pd"
    simpa using q
  | k :: ks, acc, x11, hk, hl, q => by
    have h := hk k (by simp)
    simp only [List.length_cons] at hl
    obtain ⟨g, hg, he⟩ := wd.ix0
    walk_at "pd"
    refine wr_atF h ?_
    rw [hg]
    walk_at "pt"
    rw [(he _).2]
    refine ⟨(he _).1, ?_⟩
    rw [show (p.at k).cell = p.cell k from rfl]
    by_cases hc : p.cell k = c
    · rw [decide_eq_true hc]
      walk_at "pd"
      refine wr_atF h ?_
      rw [wd.ix2]
      refine stay_at hi h ?_
      walk_at "pd"
      refine ⟨by decide, by rw [List.length_map, line_eq]; omega, ?_⟩
      have e1 : acc.map triD ++ [PyData.tuple [.int ((k : Nat) + 1), .int e, .int (-p.stay k)]] = (acc ++ [(k + 1, e, -p.stay k)]).map triD := by simp [triD]
      rw [e1]
      refine go_gone Q f p hi hn e c wd d3 x4 x7 x8 x10 ks _ _ (fun j hj => hk j (by simp [hj])) (by simp; omega) ?_
      simpa [hc] using q
    · rw [decide_eq_false hc]
      walk_at "pd"
      refine go_gone Q f p hi hn e c wd d3 x4 x7 x8 x10 ks _ _ (fun j hj => hk j (by simp [hj])) (by omega) ?_
      simpa [hc] using q
theorem range_from (a n : Nat) : rangeD a (((a : Nat) : Int) - a + n).toNat = ((List.range n).map fun i => a + i).map fun i => .int (i : Nat) := by
  rw [show (((a : Nat) : Int) - a + n).toNat = n by omega]
  unfold rangeD
  rw [List.map_map]
  exact List.map_congr_left fun i _ => by simp
def cdT4 : PTS := (sSeq
                (sFor (dRng2 (dCons (dVar 10) (dCons (dVar 7) dNil))) (aName 11)
                  (sIf (dTest (dBin fEq (dBin fIx (dBin fIx (dVar 6) (dVar 11)) (dC (PyData.int 0))) (dVar 2)))
                    (sApp 9
                      (dTup
                        (dCons (dBin fAdd (dVar 11) (dC (PyData.int 1)))
                          (dCons (dVar 1)
                            (dCons
                              (dUn fNeg
                                (dBin fIx (dVar 5) (dBin fIx (dBin fIx (dVar 6) (dVar 11)) (dC (PyData.int 2)))))
                              dNil)))))
                    sNext))
                (sRet (dVar 9)))
def cdT3 : PTS := (sSeq
              (sIf (dTest (dBin fIsNot (dVar 8) (dC PyData.none)))
                (sSeq
                  (sApp 9
                    (dTup
                      (dCons (dVar 1)
                        (dCons (dBin fAdd (dVar 8) (dC (PyData.int 1)))
                          (dCons
                            (dBin fSub (dBin fIx (dVar 5) (dBin fIx (dBin fIx (dVar 6) (dVar 8)) (dC (PyData.int 2))))
                              (dC (PyData.int 1)))
                            dNil)))))
                  (sAsg (dBin fAdd (dVar 8) (dC (PyData.int 1))) (aName 10)))
                sNext) cdT4)
def cdT2 : PTS := (sSeq
          (sIf (dTest (dBin fLt (dVar 7) (dApp fLen (dCons (dVar 6) dNil))))
            (sApp 9
              (dTup
                (dCons (dVar 1)
                  (dCons (dBin fAdd (dVar 7) (dC (PyData.int 1))) (dCons (dUn fNeg (dC (PyData.int 1))) dNil)))))
            sNext)
          (sSeq (sAsg (dC (PyData.int 0)) (aName 10)) cdT3))
def cdT1 : PTS := (sSeq
        (sIf (dTest (dBin fGt (dVar 7) (dC (PyData.int 0))))
          (sApp 9 (dTup (dCons (dVar 7) (dCons (dVar 1) (dCons (dC (PyData.int 0)) dNil))))) sNext) cdT2)
theorem step_if {c : PTT} {A B t : PTS} {P : PEnds} {ρ : List PV} (b : Bool) (hc : ∀ Q' : Bool → Prop, Q' b → c ρ Q') (h : b = true → A { P with nx := t P } ρ) (h' : b = false → B { P with nx := t P } ρ) : sSeq (sIf c A B) t P ρ := by
  refine hc _ ?_
  cases b
  · simpa using h' rfl
  · simpa using h rfl
def cdS (f : Wr → Dt) (p : Plan) (e : Nat) (c : Int) (cs : Case) (acc : List Tri) (x10 x11 : PV) : List PV :=
  [.d (planF f p), .d (.int e), .d (.int c), .d (caseD cs), .d (.int p.cells), .d (.tuple (p.stays.map .int)), .d (.tuple (p.writes.map f)), .d (.int cs.1), .d (numD cs.2), .own (.list (acc.map triD)), x10, x11]
theorem cd4 (Q : Dt → Prop) (f : Wr → Dt) (p : Plan) (hi : p.inks) (hn : p.writes.length ≤ 1000) (e : Nat) (c : Int) (wd : WD c f) (cs : Case) (h1 : cs.1 ≤ p.writes.length) (h2 : laterOf cs.2 ≤ cs.1) (acc : List Tri) (x11 : PV) (ha : acc.length ≤ 10)
    (q : Q (.list ((acc ++ goneOf p e c cs).map triD))) : cdT4 { nx := fun _ => Q .none, rt := Q } (cdS f p e c cs acc (.d (.int (laterOf cs.2))) x11) := by
  unfold cdT4 cdS
  walk_at "pd"
  refine ⟨by omega, by omega, by omega, by omega, fun _ => ?_⟩
  have := range_from (laterOf cs.2) (cs.1 - laterOf cs.2)
  rw [show ((laterOf cs.2 : Nat) : Int) - (laterOf cs.2 : Nat) + ((cs.1 - laterOf cs.2 : Nat) : Int) = (cs.1 : Int) - (laterOf cs.2 : Nat) by omega] at this
  rw [this]
  refine go_gone Q f p hi hn e c wd _ _ _ _ _ _ acc _ (fun k hk => ?_) (by simp; omega) q
  obtain ⟨i, hi, rfl⟩ := List.mem_map.mp hk
  have := List.mem_range.mp hi
  omega
theorem cd3 (Q : Dt → Prop) (f : Wr → Dt) (p : Plan) (hi : p.inks) (hn : p.writes.length ≤ 1000) (e : Nat) (c : Int) (wd : WD c f) (cs : Case) (h1 : cs.1 ≤ p.writes.length) (hk : ∀ k, cs.2 = some k → k < cs.1) (acc : List Tri) (x11 : PV) (ha : acc.length ≤ 5)
    (q : Q (.list ((acc ++ thereOf p e cs ++ goneOf p e c cs).map triD))) : cdT3 { nx := fun _ => Q .none, rt := Q } (cdS f p e c cs acc (.d (.int 0)) x11) := by
  obtain ⟨d, k⟩ := cs
  cases k with
  | none =>
    refine step_if false (fun Q' q' => ?_) (fun z => nomatch z) fun _ => ?_
    · simp only [cdS, numD]
      walk_at "pd"
      exact q'
    · refine cd4 Q f p hi hn e c wd (d, none) h1 (Nat.zero_le _) acc x11 (by omega) ?_
      simpa [thereOf] using q
  | some k =>
    have hk := hk k rfl
    refine step_if true (fun Q' q' => ?_) (fun _ => ?_) fun z => nomatch z
    · simp only [cdS, numD]
      walk_at "pd"
      exact q'
    · have key := cd4 Q f p hi hn e c wd (d, some k) h1 (by simp only [laterOf]; omega) (acc ++ [(e, k + 1, p.stay k - 1)]) x11 (by simp; omega) (by simpa [thereOf] using q)
      simp only [cdS, numD, laterOf] at key ⊢
      generalize cdT4 = T at key ⊢
      walk_at "pd"
      refine wr_atF (by omega) ?_
      rw [wd.ix2]
      refine stay_at hi (by omega) ?_
      walk_at "pd"
      refine ⟨by decide, by rw [List.length_map, line_eq]; omega, ?_⟩
      simpa [triD] using key
theorem cd2 (Q : Dt → Prop) (f : Wr → Dt) (p : Plan) (hi : p.inks) (hn : p.writes.length ≤ 1000) (e : Nat) (c : Int) (wd : WD c f) (cs : Case) (h1 : cs.1 ≤ p.writes.length) (hk : ∀ k, cs.2 = some k → k < cs.1) (acc : List Tri) (x10 x11 : PV) (ha : acc.length ≤ 3)
    (q : Q (.list ((acc ++ (if cs.1 < p.writes.length then [(e, cs.1 + 1, -1)] else []) ++ thereOf p e cs ++ goneOf p e c cs).map triD))) : cdT2 { nx := fun _ => Q .none, rt := Q } (cdS f p e c cs acc x10 x11) := by
  refine step_if (decide ((cs.1 : Int) < p.writes.length)) (fun Q' q' => ?_) (fun h => ?_) fun h => ?_
  · simp only [cdS]
    walk_at "pd"
    rw [List.length_map]
    exact q'
  · have h := of_decide_eq_true h
    rw [if_pos (by omega)] at q
    have key := cd3 Q f p hi hn e c wd cs h1 hk (acc ++ [(e, cs.1 + 1, -1)]) x11 (by simp; omega) (by simpa using q)
    simp only [cdS] at key ⊢
    generalize cdT3 = T at key ⊢
    walk_at "pd"
    refine ⟨by decide, by rw [List.length_map, line_eq]; omega, ?_⟩
    simpa [triD] using key
  · have h := of_decide_eq_false h
    rw [if_neg (by omega)] at q
    exact cd3 Q f p hi hn e c wd cs h1 hk acc x11 (by omega) (by simpa using q)
theorem cd1 (Q : Dt → Prop) (f : Wr → Dt) (p : Plan) (hi : p.inks) (hn : p.writes.length ≤ 1000) (e : Nat) (c : Int) (wd : WD c f) (cs : Case) (h1 : cs.1 ≤ p.writes.length) (hk : ∀ k, cs.2 = some k → k < cs.1) (x10 x11 : PV)
    (q : Q (.list ((caseDiffs p e c cs).map triD))) : cdT1 { nx := fun _ => Q .none, rt := Q } (cdS f p e c cs [] x10 x11) := by
  unfold caseDiffs at q
  refine step_if (decide ((0 : Int) < cs.1)) (fun Q' q' => ?_) (fun h => ?_) fun h => ?_
  · simp only [cdS]
    walk_at "pd"
    exact q'
  · have h := of_decide_eq_true h
    rw [if_pos (by omega)] at q
    have key := cd2 Q f p hi hn e c wd cs h1 hk [(cs.1, e, 0)] x10 x11 (by simp) (by simpa using q)
    simp only [cdS] at key ⊢
    generalize cdT2 = T at key ⊢
    walk_at "pd"
    refine ⟨by decide, by decide, ?_⟩
    simpa [triD] using key
  · have h := of_decide_eq_false h
    rw [if_neg (by omega)] at q
    exact cd2 Q f p hi hn e c wd cs h1 hk [] x10 x11 (by simp) (by simpa using q)
def rd_case_differences : PTS :=
  (sSeq (sAsg (dVar 0) (aTup 3 (aCons (aName 4) (aCons (aName 5) (aCons (aName 6) aNil)))))
  (sSeq (sAsg (dVar 3) (aTup 2 (aCons (aName 7) (aCons (aName 8) aNil))))
  (sSeq (sOwnL 9 dNil)
  (sSeq (sIf (dTest (dBin fGt (dVar 7) (dC (.int 0)))) (sApp 9 (dTup (dCons (dVar 7) (dCons (dVar 1) (dCons (dC (.int 0)) dNil))))) sNext)
  (sSeq (sIf (dTest (dBin fLt (dVar 7) (dApp fLen (dCons (dVar 6) dNil)))) (sApp 9 (dTup (dCons (dVar 1) (dCons (dBin fAdd (dVar 7) (dC (.int 1))) (dCons (dUn fNeg (dC (.int 1))) dNil))))) sNext)
  (sSeq (sAsg (dC (.int 0)) (aName 10))
  (sSeq (sIf (dTest (dBin fIsNot (dVar 8) (dC .none))) (sSeq (sApp 9 (dTup (dCons (dVar 1) (dCons (dBin fAdd (dVar 8) (dC (.int 1))) (dCons (dBin fSub (dBin fIx (dVar 5) (dBin fIx (dBin fIx (dVar 6) (dVar 8)) (dC (.int 2)))) (dC (.int 1))) dNil)))))
  (sAsg (dBin fAdd (dVar 8) (dC (.int 1))) (aName 10))) sNext)
  (sSeq (sFor (dRng2 (dCons (dVar 10) (dCons (dVar 7) dNil))) (aName 11) (sIf (dTest (dBin fEq (dBin fIx (dBin fIx (dVar 6) (dVar 11)) (dC (.int 0))) (dVar 2))) (sApp 9 (dTup (dCons (dBin fAdd (dVar 11) (dC (.int 1))) (dCons (dVar 1) (dCons (dUn fNeg (dBin fIx (dVar 5) (dBin fIx (dBin fIx (dVar 6) (dVar 11)) (dC (.int 2))))) dNil))))) sNext))
  (sRet (dVar 9))))))))))

theorem holds_case_differences : ∀ as Q, F_case_differences as Q → rd_case_differences { nx := fun _ => Q .none, rt := Q } (startP ["plan", "event", "cell", "case", "_", "stays", "writes", "done", "shown", "told", "later", "number"] as) := by
  rintro _ Q ⟨f, p, e, c, cs, wd, rfl, hi, hn, hd, hk, q⟩
  have key := fun x10 x11 => cd1 Q f p hi hn e c wd cs hd hk x10 x11 q
  show sSeq _ (sSeq _ (sSeq _ cdT1)) _ _
  generalize cdT1 = T at key ⊢
  simp only [cdS] at key
  walk_at "pd"
  rw [plF_tup]
  walk_at "pd"
  walk_at "pp"
  exact ⟨by decide, key _ _⟩

end PF
namespace PF
open PySem L2 PD
local macro_rules | `(tactic| walk_at "pd") => `(tactic| simp only [sRet, sSeq, sIf, sNext, sNever, sAsg, sDrop, sFor, forP, sAug, sApp, sExt, sOwnL, sPar, sRow, dAndV, dOrV, dNotV, dIs, dVar, dC, dChain, dBin, dUn, fNeg, dTest, dTru, dNot, dAnd, dOr, dIf, dCall, dApp, vCons, vNil, vE, vRow, vScr, dCons, dNil, dTup, dLst, dComp, dIter, dRng1, dRng2, dZip, seqD, aName, aTup_tup, aCons, aNil, fIn0, fInt, fAdd, fOrd, fEq, fNe, fIs, fIsNot, isN, fIx_tup, fIx_lst, at0, at1, at2, at3, at_4, eqOk_int, eqv_int, eqOk_bool, eqv_bool, eqOk_str, eqv_str, eqOk_non, eqv_non, eqOk_nil, eqv_nil, decide_true, decide_false,  fLen, fTuple, fList, fAll, fAny, fIntC, truD, frz, startP, wipeP, dYes, dJoin, dIxO, dLenO, dSl, dPart, dNoPart, fSl, sRng1, sOwn2, sPutK, sOwnK, dict_kd, dInO, dIterR, dListO, dInD, dGetD, dIterD, dEnum, fListD, fListS, dIterS, kd_inj, str_keyD, int_keyD, PV.rng.injEq,
  List.map_cons, List.map_nil, List.length_cons, List.length_nil, List.replicate, List.cons_append, List.nil_append, List.append_nil, List.getElem?_cons_zero, List.getElem?_cons_succ, List.set_cons_zero, List.set_cons_succ, Option.some.injEq, PV.d.injEq, PV.own.injEq, PV.scr.injEq, PyData.int.injEq, PyData.bool.injEq, PyData.list.injEq, PyData.tuple.injEq, PyData.str.injEq, List.cons.injEq, exists_eq_left', exists_eq_left, exists_eq', exists_eq_right', and_assoc, exists_and_left, Nat.zero_add, Nat.add_zero, Nat.reduceAdd, Nat.reduceSub, Nat.reduceLT, Nat.sub_self, ite_true, if_true, if_false, Bool.false_eq_true, ite_false, Bool.not_true, Bool.not_false, Bool.true_and, Bool.and_true, Bool.false_and, Bool.and_false, Bool.true_or, Bool.or_true, Bool.false_or, Bool.or_false, Bool.and_self, true_and, and_true])
local macro_rules | `(tactic| walk_at "pt") => `(tactic| try walk_at "pd")
local macro_rules | `(tactic| walk_at "pp") => `(tactic| (simp only [wr_ix0, wr_ix1, wr_ix2, wr_ix3, wr_ix4, pl_ix0, pl_ix1, pl_ix2, pl_tup, rd_ix0, rd_ix1, rd_tup, lk_ix0, lk_ix1, lk_ix2, lk_tup, cs_ix0, cs_ix1, cs_tup, tr_tup, pr_tup, op_tup] <;> walk_at "pt"))
theorem mem_cases {p : Plan} {c : Int} {cs : Case} : cs ∈ lookCases p c ↔ CaseOk p c cs := by
  unfold lookCases
  rw [List.mem_flatMap]
  constructor
  · rintro ⟨d, hd, h⟩
    have hd := List.mem_range.mp hd
    rcases List.mem_cons.mp h with rfl | h
    · exact ⟨by show d ≤ _; omega, fun k hk => nomatch hk⟩
    · obtain ⟨k, hk, rfl⟩ := List.mem_map.mp h
      obtain ⟨h1, h2⟩ := List.mem_filter.mp hk
      refine ⟨by show d ≤ _; omega, fun j hj => ?_⟩
      cases hj
      exact ⟨List.mem_range.mp h1, of_decide_eq_true h2⟩
  · intro h
    obtain ⟨d, k⟩ := cs
    have h1 : d ≤ p.writes.length := h.le
    refine ⟨d, List.mem_range.mpr (by omega), ?_⟩
    cases k with
    | none => exact List.mem_cons_self
    | some k =>
      obtain ⟨h2, h3⟩ := h.lt k rfl
      exact List.mem_cons_of_mem _ (List.mem_map.mpr ⟨k, List.mem_filter.mpr ⟨List.mem_range.mpr h2, decide_eq_true h3⟩, rfl⟩)
theorem look_at {r : Rdr} {j : Nat} {P : Dt → Prop} (h : j < r.looks.length) (q : P (lookAt r j).d) : fIx (.tuple (r.looks.map Lk.d)) (.int j) P := ⟨_, atI_map h, by simpa [lookAt, h] using q⟩
def F_look_differences : PF := fun as P => ∃ (p : Plan) (r : Rdr) (j : Nat) (cs : Case), as = [.d p.d, .d r.d, .d (.int j), .d (caseD cs)] ∧ j < r.looks.length ∧ p.inks ∧ p.writes.length ≤ 1000 ∧ cs.1 ≤ p.writes.length ∧ (∀ k, cs.2 = some k → k < cs.1) ∧ P (.list ((lookDiffs p r j cs).map triD))
theorem len_look_differences : ∀ as P, F_look_differences as P → as.length = 4 := by rintro _ P ⟨_, _, _, _, rfl, _⟩; rfl
theorem gone_len (p : Plan) (e : Nat) (c : Int) (cs : Case) : (goneOf p e c cs).length ≤ cs.1 := by
  unfold goneOf
  refine Nat.le_trans (List.length_filterMap_le _ _) ?_
  simp
theorem caseDiffs_len (p : Plan) (e : Nat) (c : Int) (cs : Case) (h : cs.1 ≤ p.writes.length) : (caseDiffs p e c cs).length ≤ p.writes.length + 3 := by
  have := gone_len p e c cs
  have h3 : (thereOf p e cs).length ≤ 1 := by unfold thereOf; split <;> simp
  unfold caseDiffs
  simp only [List.length_append]
  have h1 : (if 0 < cs.1 then [(cs.1, e, (0 : Int))] else []).length ≤ 1 := by split <;> simp
  have h2 : (if cs.1 < p.writes.length then [(e, cs.1 + 1, (-1 : Int))] else []).length ≤ 1 := by split <;> simp
  omega
def rd_look_differences : PTS :=
  (sSeq (sAsg (dBin fIx (dBin fIx (dVar 1) (dC (.int 1))) (dVar 2)) (aTup 3 (aCons (aName 4) (aCons (aName 5) (aCons (aName 6) aNil)))))
  (sSeq (sAsg (dBin fAdd (dBin fAdd (dApp fLen (dCons (dBin fIx (dVar 0) (dC (.int 2))) dNil)) (dC (.int 1))) (dVar 2)) (aName 7))
  (sSeq (sAsg (dIf (dTest (dBin fEq (dVar 2) (dC (.int 0)))) (dCall F_start_event (vCons (vE (dVar 1)) vNil)) (dBin fSub (dVar 7) (dC (.int 1)))) (aName 8))
  (sRet (dBin fAdd (dLst (dCons (dTup (dCons (dVar 8) (dCons (dVar 7) (dCons (dUn fNeg (dVar 5)) dNil)))) (dCons (dTup (dCons (dVar 7) (dCons (dVar 8) (dCons (dVar 6) dNil)))) dNil))) (dCall F_case_differences (vCons (vE (dVar 0)) (vCons (vE (dVar 7)) (vCons (vE (dVar 4)) (vCons (vE (dVar 3)) vNil))))))))))

theorem holds_look_differences : ∀ as Q, F_look_differences as Q → rd_look_differences { nx := fun _ => Q .none, rt := Q } (startP ["plan", "reader", "at", "case", "cell", "low", "high", "event", "ahead"] as) := by
  rintro _ Q ⟨p, r, j, cs, rfl, hj, hi, hn, hd, hk, q⟩
  have hlen := caseDiffs_len p (evOf p j) (lookAt r j).cell cs hd
  unfold rd_look_differences
  walk_at "pd"
  walk_at "pp"
  refine look_at hj ?_
  walk_at "pp"
  walk_at "pp"
  rw [List.length_map]
  have he : (((p.writes.length : Nat) : Int) + 1 + j) = ((evOf p j : Nat) : Int) := by unfold evOf; omega
  rw [he]
  refine ite_b (fun h => ?_) fun h => ?_
  · have h : j = 0 := by have := of_decide_eq_true h; omega
    subst h
    refine ⟨r, rfl, by decide, by decide, by decide, Wr.d, p, _, _, cs, wd_d _, rfl, hi, hn, hd, hk, ?_⟩
    refine ⟨by simp only [List.length_map, List.length_cons, List.length_nil]; rw [line_eq]; omega, ?_⟩
    simpa [lookDiffs, aheadOf, triD] using q
  · have h : j ≠ 0 := by have := of_decide_eq_false h; omega
    refine ⟨by decide, by decide, by decide, Wr.d, p, _, _, cs, wd_d _, rfl, hi, hn, hd, hk, ?_⟩
    refine ⟨by simp only [List.length_map, List.length_cons, List.length_nil]; rw [line_eq]; omega, ?_⟩
    have ha : ((evOf p j : Nat) : Int) - 1 = ((p.writes.length + j : Nat) : Int) := by unfold evOf; omega
    rw [ha]
    simpa [lookDiffs, aheadOf, triD, h] using q
def F_look_options : PF := fun as P => ∃ (p : Plan) (r : Rdr) (j : Nat), as = [.d p.d, .d r.d, .d (.int j)] ∧ j < r.looks.length ∧ p.inks ∧ p.writes.length ≤ 1000 ∧ P (optD (lookOpts p r j))
theorem len_look_options : ∀ as P, F_look_options as P → as.length = 3 := by rintro _ P ⟨_, _, _, rfl, _⟩; rfl
theorem floors_eq (e : Nat) : ∀ l : List Tri, (l.filter fun t => decide (t.2.1 = e)).map (fun t => PyData.tuple [.int t.1, .int t.2.2]) = (floorsOf e l).map prD
  | [] => rfl
  | t :: l => by
    have ih := floors_eq e l
    unfold floorsOf at ih ⊢
    by_cases h : t.2.1 = e <;> simp [h, prD] at ih ⊢ <;> exact ih
theorem roofs_eq (e : Nat) : ∀ l : List Tri, (l.filter fun t => decide (t.1 = e)).map (fun t => PyData.tuple [.int t.2.1, .int t.2.2]) = (roofsOf e l).map prD
  | [] => rfl
  | t :: l => by
    have ih := roofs_eq e l
    unfold roofsOf at ih ⊢
    by_cases h : t.1 = e <;> simp [h, prD] at ih ⊢ <;> exact ih
theorem dec_nat (a b : Nat) : decide (((a : Nat) : Int) = b) = decide (a = b) := by
  by_cases h : a = b
  · subst h; simp
  · rw [decide_eq_false h, decide_eq_false (by omega)]
def loTurn : PTS := (sSeq (sAsg (dCall F_look_differences (vCons (vE (dVar 0)) (vCons (vE (dVar 1)) (vCons (vE (dVar 2)) (vCons (vE (dVar 5)) vNil))))) (aName 6))
  (sSeq (sAsg (dComp (dIter (dVar 6)) (aTup 3 (aCons (aName 9) (aCons (aName 10) (aCons (aName 11) aNil)))) (dTest (dBin fEq (dVar 10) (dVar 3))) (dTup (dCons (dVar 9) (dCons (dVar 11) dNil))) [9, 10, 11]) (aName 7))
  (sSeq (sAsg (dComp (dIter (dVar 6)) (aTup 3 (aCons (aName 9) (aCons (aName 10) (aCons (aName 11) aNil)))) (dTest (dBin fEq (dVar 9) (dVar 3))) (dTup (dCons (dVar 10) (dCons (dVar 11) dNil))) [9, 10, 11]) (aName 8))
  (sApp 4 (dTup (dCons (dCall F_case_sign (vCons (vE (dVar 0)) (vCons (vE (dVar 5)) vNil))) (dCons (dVar 7) (dCons (dVar 8) dNil))))))))
theorem go_opts (Q : PEnds) (t : PTS) (p : Plan) (r : Rdr) (j : Nat) (hj : j < r.looks.length) (hi : p.inks) (hn : p.writes.length ≤ 1000) : ∀ (cs : List Case) (acc : List Opt) (x5 x6 x7 x8 x9 x10 x11 : PV), (∀ c ∈ cs, CaseOk p (lookAt r j).cell c) → acc.length + cs.length ≤ 3000000 →
    (∀ x5 x6 x7 x8 x9 x10 x11, t Q [.d p.d, .d r.d, .d (.int j), .d (.int (evOf p j)), .own (.list ((acc ++ cs.map (lookOpt p r j)).map Opt.d)), x5, x6, x7, x8, x9, x10, x11]) →
    forP (aName 5) loTurn { Q with nx := t Q } (cs.map caseD) [.d p.d, .d r.d, .d (.int j), .d (.int (evOf p j)), .own (.list (acc.map Opt.d)), x5, x6, x7, x8, x9, x10, x11]
  | [], acc, x5, x6, x7, x8, x9, x10, x11, _, _, q => by
    simpa [forP] using q x5 x6 x7 x8 x9 x10 x11
  | c :: cs, acc, x5, x6, x7, x8, x9, x10, x11, hc, hl, q => by
    have h := hc c (by simp)
    simp only [List.length_cons] at hl
    have ih := go_opts Q t p r j hj hi hn cs (acc ++ [lookOpt p r j c])
    unfold loTurn at ih ⊢
    walk_at "pd"
    refine ⟨p, r, j, c, rfl, hj, hi, hn, h.le, fun k hk => (h.lt k hk).1, ?_⟩
    walk_at "pd"
    intro _
    refine lcP_encf triD (fun t => .tuple [.int t.1, .int t.2.2]) (fun t => decide (t.2.1 = evOf p j)) _ _ (fun t ht Pt Pf h2 => ?_) ?_
    · walk_at "pd"
      walk_at "pp"
      rw [dec_nat]
      split
      · next h3 => rw [if_pos h3] at h2; exact ⟨by decide, h2⟩
      · next h3 => rw [if_neg h3] at h2; exact h2
    rw [floors_eq]
    intro _
    refine lcP_encf triD (fun t => .tuple [.int t.2.1, .int t.2.2]) (fun t => decide (t.1 = evOf p j)) _ _ (fun t ht Pt Pf h2 => ?_) ?_
    · walk_at "pd"
      walk_at "pp"
      rw [dec_nat]
      split
      · next h3 => rw [if_pos h3] at h2; exact ⟨by decide, h2⟩
      · next h3 => rw [if_neg h3] at h2; exact h2
    rw [roofs_eq]
    refine ⟨Wr.d, 0, p, c, wd_d _, rfl, fun k hk => by have := (h.lt k hk).1; have := h.le; omega, ?_⟩
    walk_at "pd"
    refine ⟨by decide, by rw [List.length_map, line_eq]; omega, ?_⟩
    rw [show acc.map Opt.d ++ [PyData.tuple [.str (caseSign p c), .list ((floorsOf (evOf p j) (lookDiffs p r j c)).map prD), .list ((roofsOf (evOf p j) (lookDiffs p r j c)).map prD)]] = (acc ++ [lookOpt p r j c]).map Opt.d by simp [Opt.d, lookOpt, prsD]]
    refine ih _ _ _ _ _ _ _ (fun x hx => hc x (by simp [hx])) (by simp; omega) fun y5 y6 y7 y8 y9 y10 y11 => ?_
    simpa using q y5 y6 y7 y8 y9 y10 y11
theorem cases_len (p : Plan) (c : Int) : (lookCases p c).length ≤ (p.writes.length + 1) * (p.writes.length + 1) := by
  have : ∀ (l : List Nat) (m : Nat), (∀ x ∈ l, x < m) → (l.flatMap (casesAt p c)).length ≤ l.length * m := by
    intro l m
    induction l with
    | nil => simp
    | cons x l ih =>
      intro h
      have h1 := ih fun y hy => h y (by simp [hy])
      have h2 := casesAt_len p c x
      have h3 := h x (by simp)
      rw [List.flatMap_cons, List.length_append, List.length_cons, Nat.succ_mul]
      omega
  have := this (List.range (p.writes.length + 1)) (p.writes.length + 1) fun x hx => List.mem_range.mp hx
  rw [List.length_range] at this
  exact this
def rd_look_options : PTS :=
  (sSeq (sAsg (dBin fAdd (dBin fAdd (dApp fLen (dCons (dBin fIx (dVar 0) (dC (.int 2))) dNil)) (dC (.int 1))) (dVar 2)) (aName 3))
  (sSeq (sOwnL 4 dNil)
  (sSeq (sFor (dIter (dCall F_look_cases (vCons (vE (dVar 0)) (vCons (vE (dBin fIx (dBin fIx (dVar 1) (dC (.int 1))) (dVar 2))) vNil)))) (aName 5) (sSeq (sAsg (dCall F_look_differences (vCons (vE (dVar 0)) (vCons (vE (dVar 1)) (vCons (vE (dVar 2)) (vCons (vE (dVar 5)) vNil))))) (aName 6))
  (sSeq (sAsg (dComp (dIter (dVar 6)) (aTup 3 (aCons (aName 9) (aCons (aName 10) (aCons (aName 11) aNil)))) (dTest (dBin fEq (dVar 10) (dVar 3))) (dTup (dCons (dVar 9) (dCons (dVar 11) dNil))) [9, 10, 11]) (aName 7))
  (sSeq (sAsg (dComp (dIter (dVar 6)) (aTup 3 (aCons (aName 9) (aCons (aName 10) (aCons (aName 11) aNil)))) (dTest (dBin fEq (dVar 9) (dVar 3))) (dTup (dCons (dVar 10) (dCons (dVar 11) dNil))) [9, 10, 11]) (aName 8))
  (sApp 4 (dTup (dCons (dCall F_case_sign (vCons (vE (dVar 0)) (vCons (vE (dVar 5)) vNil))) (dCons (dVar 7) (dCons (dVar 8) dNil)))))))))
  (sRet (dVar 4)))))

theorem holds_look_options : ∀ as Q, F_look_options as Q → rd_look_options { nx := fun _ => Q .none, rt := Q } (startP ["plan", "reader", "at", "event", "found", "case", "told", "floors", "roofs", "x", "y", "c"] as) := by
  rintro _ Q ⟨p, r, j, rfl, hj, hi, hn, q⟩
  have key := fun x5 x6 x7 x8 x9 x10 x11 => go_opts { nx := fun _ => Q .none, rt := Q } (sRet (dVar 4)) p r j hj hi hn (lookCases p (lookAt r j).cell) [] x5 x6 x7 x8 x9 x10 x11 (fun c hc => mem_cases.mp hc) (by
    have := cases_len p (lookAt r j).cell
    have : (p.writes.length + 1) * (p.writes.length + 1) ≤ 1001 * 1001 := Nat.mul_le_mul (by omega) (by omega)
    simp
    omega) fun x5 x6 x7 x8 x9 x10 x11 => by
      walk_at "pd"
      exact q
  show sSeq _ (sSeq _ (sSeq (sFor _ _ loTurn) _)) _ _
  generalize loTurn = T at key ⊢
  walk_at "pd"
  walk_at "pp"
  rw [List.length_map]
  have he : (((p.writes.length : Nat) : Int) + 1 + j) = ((evOf p j : Nat) : Int) := by unfold evOf; omega
  rw [he]
  refine ⟨by decide, ?_⟩
  refine look_at hj ?_
  refine ⟨Wr.d, p, _, wd_d _, rfl, hn, fun _ => ?_⟩
  exact key _ _ _ _ _ _ _
def F_all_options : PF := fun as P => ∃ (p : Plan) (r : Rdr), as = [.d p.d, .d r.d] ∧ r.looks.length ≤ 1000 ∧ p.inks ∧ p.writes.length ≤ 1000 ∧ P (optsD (allOpts p r))
theorem len_all_options : ∀ as P, F_all_options as P → as.length = 2 := by rintro _ P ⟨_, _, rfl, _⟩; rfl
def rd_all_options : PTS :=
  (sRet (dComp (dRng1 (dCons (dApp fLen (dCons (dBin fIx (dVar 1) (dC (.int 1))) dNil)) dNil)) (aName 2) dYes (dCall F_look_options (vCons (vE (dVar 0)) (vCons (vE (dVar 1)) (vCons (vE (dVar 2)) vNil)))) [2]))

theorem holds_all_options : ∀ as Q, F_all_options as Q → rd_all_options { nx := fun _ => Q .none, rt := Q } (startP ["plan", "reader", "at"] as) := by
  rintro _ Q ⟨p, r, rfl, hl, hi, hn, q⟩
  unfold rd_all_options
  walk_at "pd"
  walk_at "pp"
  rw [List.length_map]
  refine ⟨by omega, by omega, fun _ => ?_⟩
  rw [show ((r.looks.length : Nat) : Int).toNat = r.looks.length by omega, rangeD_nat]
  refine lcP_enc (fun i : Nat => .int (i : Nat)) (fun j => optD (lookOpts p r j)) _ _ (fun j hj P' p' => ?_) ?_
  · walk_at "pd"
    exact ⟨p, r, j, rfl, List.mem_range.mp hj, hi, hn, p'⟩
  · unfold optsD allOpts at q
    rw [List.map_map] at q
    exact q

def F_timetable_of : PF := fun as P => ∃ (p : Plan) (r : Rdr) (f : Nat → Int), as = [.d p.d, .d r.d, .d (rowD (p.writes.length + 1 + r.looks.length) f)] ∧ p.writes.length ≤ 1000 ∧ r.looks.length ≤ 1000 ∧ startEv r ≤ p.writes.length ∧
  P (.tuple [.tuple ((List.range p.writes.length).map fun i => .int (f (i + 1) - f i)), .tuple ((List.range r.looks.length).map fun j => .int (f (evOf p j) - f (aheadOf p r j)))])
theorem len_timetable_of : ∀ as P, F_timetable_of as P → as.length = 3 := by rintro _ P ⟨_, _, _, rfl, _⟩; rfl
theorem go_rests (Q : PEnds) (t : PTS) (p : Plan) (r : Rdr) (f : Nat → Int) (h1 : p.writes.length ≤ 1000) (h2 : r.looks.length ≤ 1000) (h3 : startEv r ≤ p.writes.length) (d3 d4 : PV) : ∀ (m j : Nat) (x7 : PV), j + m = r.looks.length →
    (∀ x6 x7, t Q [.d p.d, .d r.d, .d (rowD (p.writes.length + 1 + r.looks.length) f), d3, d4, .own (.list ((List.range r.looks.length).map fun j => .int (f (evOf p j) - f (aheadOf p r j)))), x6, x7]) →
    forP (aName 7) (sSeq (sApp 5 (dBin fSub (dBin fIx (dVar 2) (dVar 7)) (dBin fIx (dVar 2) (dVar 6)))) (sAsg (dVar 7) (aName 6))) { Q with nx := t Q } (((List.range m).map fun i => evOf p j + i).map fun i => .int (i : Nat))
      [.d p.d, .d r.d, .d (rowD (p.writes.length + 1 + r.looks.length) f), d3, d4, .own (.list ((List.range j).map fun j => .int (f (evOf p j) - f (aheadOf p r j)))), .d (.int (aheadOf p r j)), x7]
  | 0, j, x7, h, q => by
    have : j = r.looks.length := by omega
    subst this
    exact q _ _
  | m + 1, j, x7, h, q => by
    rw [show (List.range (m + 1)).map (fun i => evOf p j + i) = evOf p j :: (List.range m).map fun i => evOf p (j + 1) + i by
      rw [List.range_succ_eq_map, List.map_cons, List.map_map]
      congr 1
      refine List.map_congr_left fun i _ => ?_
      simp only [Function.comp, evOf]
      omega]
    walk_at "pd"
    refine row_ix (by unfold evOf; omega) ?_
    refine row_ix (by unfold aheadOf; split <;> omega) ?_
    walk_at "pd"
    refine ⟨by simp; rw [line_eq]; omega, ?_⟩
    have ih := go_rests Q t p r f h1 h2 h3 d3 d4 m (j + 1) (.d (.int (evOf p j))) (by omega) q
    have e1 : ((aheadOf p r (j + 1) : Nat) : Int) = ((evOf p j : Nat) : Int) := by unfold aheadOf evOf; simp; omega
    rw [e1, List.range_succ, List.map_append] at ih
    exact ih
def rd_timetable_of : PTS :=
  (sSeq (sAsg (dBin fAdd (dApp fLen (dCons (dBin fIx (dVar 0) (dC (.int 2))) dNil)) (dC (.int 1))) (aName 3))
  (sSeq (sAsg (dComp (dRng2 (dCons (dC (.int 1)) (dCons (dVar 3) dNil))) (aName 7) dYes (dBin fSub (dBin fIx (dVar 2) (dVar 7)) (dBin fIx (dVar 2) (dBin fSub (dVar 7) (dC (.int 1))))) [7]) (aName 4))
  (sSeq (sOwnL 5 dNil)
  (sSeq (sAsg (dCall F_start_event (vCons (vE (dVar 1)) vNil)) (aName 6))
  (sSeq (sFor (dRng2 (dCons (dVar 3) (dCons (dApp fLen (dCons (dVar 2) dNil)) dNil))) (aName 7) (sSeq (sApp 5 (dBin fSub (dBin fIx (dVar 2) (dVar 7)) (dBin fIx (dVar 2) (dVar 6))))
  (sAsg (dVar 7) (aName 6))))
  (sRet (dTup (dCons (dApp fTuple (dCons (dVar 4) dNil)) (dCons (dApp fTuple (dCons (dVar 5) dNil)) dNil)))))))))

theorem holds_timetable_of : ∀ as Q, F_timetable_of as Q → rd_timetable_of { nx := fun _ => Q .none, rt := Q } (startP ["plan", "reader", "times", "first", "pace", "rests", "ahead", "event"] as) := by
  rintro _ Q ⟨p, r, f, rfl, h1, h2, h3, q⟩
  have key := fun d3 d4 x7 => go_rests { nx := fun _ => Q .none, rt := Q } (sRet (dTup (dCons (dApp fTuple (dCons (dVar 4) dNil)) (dCons (dApp fTuple (dCons (dVar 5) dNil)) dNil)))) p r f h1 h2 h3 d3 (.d (.list ((List.range p.writes.length).map fun i => .int (f (i + 1) - f i)))) r.looks.length 0 x7 (by omega) fun x6 x7 => by
    walk_at "pd"
    exact ⟨by decide, q⟩
  unfold rd_timetable_of
  walk_at "pd"
  walk_at "pp"
  rw [List.length_map]
  refine ⟨by decide, by decide, by omega, by omega, fun _ => ?_⟩
  have e0 : rangeD 1 (((p.writes.length : Nat) : Int) + 1 - 1).toNat = (List.range p.writes.length).map fun i => .int ((i + 1 : Nat) : Int) := by
    rw [show (((p.writes.length : Nat) : Int) + 1 - 1).toNat = p.writes.length by omega]
    unfold rangeD
    exact List.map_congr_left fun i _ => by simp; omega
  rw [e0]
  refine lcP_enc (fun i : Nat => .int ((i + 1 : Nat) : Int)) (fun i => .int (f (i + 1) - f i)) _ _ (fun i hi P' p' => ?_) ?_
  · have hi := List.mem_range.mp hi
    walk_at "pd"
    refine row_ix (by omega) ?_
    rw [show ((i + 1 : Nat) : Int) - 1 = ((i : Nat) : Int) by omega]
    refine row_ix (by omega) ?_
    walk_at "pd"
    exact p'
  refine ⟨by decide, r, rfl, ?_⟩
  rw [show rowD (p.writes.length + 1 + r.looks.length) f = PyData.list ((List.range (p.writes.length + 1 + r.looks.length)).map fun y => .int (f y)) from rfl]
  walk_at "pd"
  rw [List.length_map, List.length_range]
  refine ⟨by omega, by omega, by omega, by omega, fun _ => ?_⟩
  have e1 : rangeD (((p.writes.length : Nat) : Int) + 1) (((p.writes.length + 1 + r.looks.length : Nat) : Int) - (((p.writes.length : Nat) : Int) + 1)).toNat = ((List.range r.looks.length).map fun i => evOf p 0 + i).map fun i => .int (i : Nat) := by
    rw [show (((p.writes.length + 1 + r.looks.length : Nat) : Int) - (((p.writes.length : Nat) : Int) + 1)).toNat = r.looks.length by omega]
    unfold rangeD
    rw [List.map_map]
    exact List.map_congr_left fun i _ => by simp [evOf]
  rw [e1]
  exact key _ (by omega) _
/-! ### text_at -/
def startTick (r : Rdr) (ts : List Int) : Int := match r.start with
  | none => 0
  | some k => ts.getD k 0
def momentsOf (r : Rdr) (rs ls : List Int) : List Int := sums (startTick r (sums 0 rs)) ls
def textOf (p : Plan) (r : Rdr) (rs ls : List Int) : Str := Txt.join "" ((r.looks.zip (momentsOf r rs ls)).map fun q => seenAt p (sums 0 rs) q.1.cell q.2)
def timeD (rs ls : List Int) : Dt := .tuple [.tuple (rs.map .int), .tuple (ls.map .int)]
def F_text_at : PF := fun as P => ∃ (p : Plan) (r : Rdr) (rs ls : List Int), as = [.d p.d, .d r.d, .d (timeD rs ls)] ∧ p.inks ∧ (∀ w ∈ p.writes, w.sign.length = 1) ∧ rs.length ≤ 1000 ∧ ls.length ≤ 1000 ∧ r.looks.length ≤ 1000 ∧ startEv r ≤ rs.length ∧ P (.str (textOf p r rs ls))
theorem len_text_at : ∀ as P, F_text_at as P → as.length = 3 := by rintro _ P ⟨_, _, _, _, rfl, _⟩; rfl
theorem zip_len {α β : Type} (xs : List α) (ys : List β) (h : xs.length ≤ 1000) : (xs.zip ys).length ≤ 1000 := by
  rw [List.length_zip]; omega
def rd_text_at : PTS :=
  (sSeq (sAsg (dVar 2) (aTup 2 (aCons (aName 3) (aCons (aName 4) aNil))))
  (sSeq (sAsg (dCall F_summed (vCons (vE (dC (.int 0))) (vCons (vE (dVar 3)) vNil))) (aName 5))
  (sSeq (sAsg (dIf (dTest (dBin fIs (dBin fIx (dVar 1) (dC (.int 0))) (dC .none))) (dC (.int 0)) (dBin fIx (dVar 5) (dBin fIx (dVar 1) (dC (.int 0))))) (aName 6))
  (sSeq (sAsg (dCall F_summed (vCons (vE (dVar 6)) (vCons (vE (dVar 4)) vNil))) (aName 7))
  (sRet (dJoin (dC (.str "")) (dComp (dZip (dCons (dBin fIx (dVar 1) (dC (.int 1))) (dCons (dVar 7) dNil))) (aTup 2 (aCons (aName 8) (aCons (aName 9) aNil))) dYes (dCall F_sign_at (vCons (vE (dVar 0)) (vCons (vE (dVar 5)) (vCons (vE (dBin fIx (dVar 8) (dC (.int 0)))) (vCons (vE (dVar 9)) vNil))))) [8, 9])))))))

theorem holds_text_at : ∀ as Q, F_text_at as Q → rd_text_at { nx := fun _ => Q .none, rt := Q } (startP ["plan", "reader", "timetable", "pace", "rests", "times", "start", "moments", "look", "tick"] as) := by
  rintro _ Q ⟨p, r, rs, ls, rfl, hi, h1, hr, hl, hk, hs, q⟩
  unfold rd_text_at timeD
  walk_at "pd"
  refine ⟨0, rs, _, rfl, .inl rfl, hr, ?_⟩
  walk_at "pp"
  have em : momentsOf r rs ls = sums (startTick r (sums 0 rs)) ls := rfl
  unfold textOf at q
  rw [em] at q
  cases e : r.start with
  | none =>
    rw [show startTick r (sums 0 rs) = 0 by simp [startTick, e]] at q
    simp only [numD]
    walk_at "pt"
    refine ⟨0, ls, _, rfl, .inl rfl, hl, ?_⟩
    walk_at "pd"
    intro _
    rw [zip_enc]
    refine lcP_enc (fun w : Lk × Int => .tuple [w.1.d, .int w.2]) (fun w => .str (seenAt p (sums 0 rs) w.1.cell w.2)) _ _ (fun w hw P' p' => ?_) ?_
    · walk_at "pd"
      walk_at "pp"
      exact ⟨p, _, _, _, rfl, hi, p'⟩
    · exact ⟨_, .inl rfl, _, strs_at _ _, join_ok (fun c _ => seenAt_one h1 _ _ _) (zip_len _ _ hk), q⟩
  | some k =>
    have hk' : k < rs.length := by have : startEv r = k + 1 := by simp [startEv, e]
                                   omega
    rw [show startTick r (sums 0 rs) = (sums 0 rs).getD k 0 by simp [startTick, e]] at q
    simp only [numD]
    walk_at "pt"
    refine ⟨.int ((sums 0 rs).getD k 0), ?_, ?_⟩
    · have := @getD_at (sums 0 rs) (k : Int) (by omega) (by rw [sums_length]; omega)
      rw [show ((k : Nat) : Int).toNat = k by omega] at this
      exact this
    refine ⟨(sums 0 rs).getD k 0, ls, _, rfl, .inl rfl, hl, ?_⟩
    walk_at "pd"
    intro _
    rw [zip_enc]
    refine lcP_enc (fun w : Lk × Int => .tuple [w.1.d, .int w.2]) (fun w => .str (seenAt p (sums 0 rs) w.1.cell w.2)) _ _ (fun w hw P' p' => ?_) ?_
    · walk_at "pd"
      walk_at "pp"
      exact ⟨p, _, _, _, rfl, hi, p'⟩
    · exact ⟨_, .inl rfl, _, strs_at _ _, join_ok (fun c _ => seenAt_one h1 _ _ _) (zip_len _ _ hk), q⟩

end PF
namespace PF
open PySem L2 PD
local macro_rules | `(tactic| walk_at "pd") => `(tactic| simp only [sRet, sSeq, sIf, sNext, sNever, sAsg, sDrop, sFor, forP, sAug, sApp, sExt, sOwnL, sPar, sRow, dAndV, dOrV, dNotV, dIs, dVar, dC, dChain, dBin, dUn, fNeg, dTest, dTru, dNot, dAnd, dOr, dIf, dCall, dApp, vCons, vNil, vE, vRow, vScr, dCons, dNil, dTup, dLst, dComp, dIter, dRng1, dRng2, dZip, seqD, aName, aTup_tup, aCons, aNil, fIn0, fInt, fAdd, fOrd, fEq, fNe, fIs, fIsNot, isN, fIx_tup, fIx_lst, at0, at1, at2, at3, at_4, eqOk_int, eqv_int, eqOk_bool, eqv_bool, eqOk_str, eqv_str, eqOk_non, eqv_non, eqOk_nil, eqv_nil, decide_true, decide_false,  fLen, fTuple, fList, fAll, fAny, fIntC, truD, frz, startP, wipeP, dYes, dJoin, dIxO, dLenO, dSl, dPart, dNoPart, fSl, sRng1, sOwn2, sPutK, sOwnK, dict_kd, dInO, dIterR, dListO, dInD, dGetD, dIterD, dEnum, fListD, fListS, dIterS, kd_inj, str_keyD, int_keyD, PV.rng.injEq,
  List.map_cons, List.map_nil, List.length_cons, List.length_nil, List.replicate, List.cons_append, List.nil_append, List.append_nil, List.getElem?_cons_zero, List.getElem?_cons_succ, List.set_cons_zero, List.set_cons_succ, Option.some.injEq, PV.d.injEq, PV.own.injEq, PV.scr.injEq, PyData.int.injEq, PyData.bool.injEq, PyData.list.injEq, PyData.tuple.injEq, PyData.str.injEq, List.cons.injEq, exists_eq_left', exists_eq_left, exists_eq', exists_eq_right', and_assoc, exists_and_left, Nat.zero_add, Nat.add_zero, Nat.reduceAdd, Nat.reduceSub, Nat.reduceLT, Nat.sub_self, ite_true, if_true, if_false, Bool.false_eq_true, ite_false, Bool.not_true, Bool.not_false, Bool.true_and, Bool.and_true, Bool.false_and, Bool.and_false, Bool.true_or, Bool.or_true, Bool.false_or, Bool.or_false, Bool.and_self, true_and, and_true])
local macro_rules | `(tactic| walk_at "pt") => `(tactic| try walk_at "pd")
local macro_rules | `(tactic| walk_at "pp") => `(tactic| (simp only [wr_ix0, wr_ix1, wr_ix2, wr_ix3, wr_ix4, pl_ix0, pl_ix1, pl_ix2, pl_tup, rd_ix0, rd_ix1, rd_tup, lk_ix0, lk_ix1, lk_ix2, lk_tup, cs_ix0, cs_ix1, cs_tup, tr_tup, pr_tup, op_tup] <;> walk_at "pt"))
theorem reads_iff : ∀ (os : List (List Opt)) (s : Sp2) (n : Nat) (z : Str), Closed s n → OptsOk n os → 0 < n → (Reads s n os z ↔ ∃ t, Sol s n t ∧ Path t n os z)
  | [], s, n, z, C, _, h0 => by
    constructor
    · intro h
      exact ⟨_, sol_last C h0, h⟩
    · rintro ⟨_, _, h⟩
      exact h
  | o :: os, s, n, z, C, O, h0 => by
    constructor
    · rintro ⟨q, hq, F, r, hr, hz⟩
      have B := (O.1 q hq).1
      obtain ⟨t, ht, hp⟩ := (reads_iff os _ (n + 1) r (C.join B F) O.2 (by omega)).mp hr
      obtain ⟨h1, h2⟩ := (sol_join C B t).mp ht
      exact ⟨t, h1, q, hq, h2, r, hp, hz⟩
    · rintro ⟨t, ht, q, hq, hb, r, hp, hz⟩
      have B := (O.1 q hq).1
      have F := fits_of B ht hb
      exact ⟨q, hq, F, r, (reads_iff os _ (n + 1) r (C.join B F) O.2 (by omega)).mpr ⟨t, (sol_join C B t).mpr ⟨ht, hb⟩, hp⟩, hz⟩
/-! ### found_texts -/
def keyS (z : Str) : Key × Dt := (Sum.inr z, .bool true)
def add1 (ks : List Str) (z : Str) : List Str := if z ∈ ks then ks else ks ++ [z]
theorem has_keyS (z : Str) : ∀ ks : List Str, hasA (ks.map keyS) (Sum.inr z) = decide (z ∈ ks)
  | [] => by simp [hasA]
  | k :: ks => by
    have ih := has_keyS z ks
    unfold hasA at ih ⊢
    rw [List.map_cons, List.any_cons, ih]
    by_cases h : k = z
    · subst h; simp [keyS]
    · have : z ≠ k := fun e => h e.symm
      simp [keyS, h, this]
theorem put_keyS (z : Str) (ks : List Str) : putA (ks.map keyS) (Sum.inr z) (.bool true) = (add1 ks z).map keyS := by
  unfold putA add1
  rw [has_keyS]
  by_cases h : z ∈ ks
  · rw [decide_eq_true h, if_pos rfl, if_pos h, List.map_map]
    refine List.map_congr_left fun k _ => ?_
    simp only [Function.comp, keyS]
    exact ite_self _
  · rw [decide_eq_false h, if_neg (by simp), if_neg h]
    simp [keyS]
theorem add1_nodup {ks : List Str} {z : Str} (h : ks.Nodup) : (add1 ks z).Nodup := by
  unfold add1
  split
  · exact h
  · next hz => exact List.nodup_append.mpr ⟨h, by simp, fun a ha b hb => by
      rw [List.mem_singleton] at hb
      subst hb
      exact fun e => hz (e ▸ ha)⟩
theorem add1_mem {ks : List Str} {z y : Str} : y ∈ add1 ks z ↔ y ∈ ks ∨ y = z := by
  unfold add1
  split
  · next h => exact ⟨.inl, fun e => e.elim id fun e => e ▸ h⟩
  · simp
theorem add1_len (ks : List Str) (z : Str) : (add1 ks z).length ≤ ks.length + 1 := by
  unfold add1
  split
  · omega
  · simp
def addAll (ks : List Str) : List Str → List Str
  | [] => ks
  | z :: l => addAll (add1 ks z) l
theorem addAll_nodup : ∀ (l : List Str) {ks : List Str}, ks.Nodup → (addAll ks l).Nodup
  | [], _, h => h
  | z :: l, _, h => addAll_nodup l (add1_nodup h)
theorem addAll_mem : ∀ (l : List Str) {ks : List Str} {y : Str}, y ∈ addAll ks l ↔ y ∈ ks ∨ y ∈ l
  | [], _, _ => by simp [addAll]
  | z :: l, ks, y => by rw [addAll, addAll_mem l, add1_mem, List.mem_cons, or_assoc]
theorem addAll_len : ∀ (l : List Str) (ks : List Str), (addAll ks l).length ≤ ks.length + l.length
  | [], ks => by simp [addAll]
  | z :: l, ks => by
    have := addAll_len l (add1 ks z)
    have := add1_len ks z
    rw [addAll, List.length_cons]
    omega
theorem cut1 {x : Dt} {xs : List Dt} : cutD (x :: xs) (some 1) none = xs := by
  unfold cutD HT.sIx
  simp
theorem cutS1 {z : Str} : (cutS z (some 1) none).cps.toList = z.cps.toList.drop 1 := by
  unfold cutS HT.sIx
  simp only [show ¬ ((1 : Int) < 0) by decide, if_false]
  have e : z.length = z.cps.toList.length := by simp [Str.length]
  rw [e]
  cases z.cps.toList with
  | nil => simp
  | cons c l => simp
def FtextsAt : Nat → PF
  | 0 => fun _ _ => False
  | k + 1 => fun as P => ∃ (n : Nat) (s : Sp2) (os : List (List Opt)), as = [.d (tabD n s), .d (optsD os)] ∧ os.length = k + 1 ∧ 0 < n ∧ n + os.length ≤ 1000 ∧ OptsOk n os ∧ cnt os ≤ 16000000 ∧ ∀ ks : List Str, ks.Nodup → (∀ z, z ∈ ks ↔ Reads s n os z) → ks.length ≤ cnt os → P (kd (ks.map keyS))
theorem len_texts (k : Nat) : ∀ as P, FtextsAt k as P → as.length = 2 := by
  cases k with
  | zero => intro _ _ h; exact h.elim
  | succ k => rintro _ P ⟨_, _, _, rfl, _⟩; rfl
def ftPut : PTS := sPutK 2 (dBin fAdd (dVar 3) (dVar 6)) (dC (.bool true))
theorem go_put (Q : PEnds) (d0 d1 d4 d5 : Dt) (sg : Str) (hs : sg.length = 1) : ∀ (rs ks : List Str) (x6 : PV), ks.length + rs.length ≤ 16000000 → (∀ z ∈ rs, z.length ≤ 1000) →
    (∀ x6, Q.nx [.d d0, .d d1, .own (kd ((addAll ks (rs.map fun z => sg ++ z)).map keyS)), .d (.str sg), .d d4, .d d5, x6]) →
    forP (aName 6) ftPut Q (rs.map .str) [.d d0, .d d1, .own (kd (ks.map keyS)), .d (.str sg), .d d4, .d d5, x6]
  | [], ks, x6, _, _, q => q x6
  | z :: rs, ks, x6, hl, hz, q => by
    simp only [List.length_cons] at hl
    have ih := fun x6 => go_put Q d0 d1 d4 d5 sg hs rs (add1 ks (sg ++ z)) x6 (by have := add1_len ks (sg ++ z); omega) (fun y hy => hz y (by simp [hy])) q
    unfold ftPut at ih ⊢
    have h1 := hz z (by simp)
    walk_at "pd"
    refine ⟨by rw [hs, line_eq]; omega, ?_⟩
    refine ⟨by rw [List.length_map, line_eq]; omega, ?_⟩
    rw [put_keyS]
    exact ih _
def ftTurn (F : PF) : PTS := (sIf (dTest (dBin fEq (dApp fLen (dCons (dVar 1) dNil)) (dC (.int 1)))) (sIf (dAnd (dTest (dInO 2 true (dVar 3))) (dTru (dCall F_fits (vCons (vE (dVar 0)) (vCons (vE (dVar 4)) (vCons (vE (dVar 5)) vNil)))))) (sPutK 2 (dVar 3) (dC (.bool true))) sNext) (sIf (dTru (dCall F_fits (vCons (vE (dVar 0)) (vCons (vE (dVar 4)) (vCons (vE (dVar 5)) vNil))))) (sFor (dIterD (dCall F (vCons (vE (dCall F_joined (vCons (vE (dVar 0)) (vCons (vE (dVar 4)) (vCons (vE (dVar 5)) vNil))))) (vCons (vE (dSl (dVar 1) (dPart (dC (.int 1))) dNoPart)) vNil)))) (aName 6) ftPut) sNext))
/-- what the options done so far read -/
def ReadsOf (s : Sp2) (n : Nat) (done : List Opt) (os : List (List Opt)) (z : Str) : Prop := ∃ q ∈ done, Fits s q.fl q.rf ∧ ∃ r, Reads (joinF s n q.fl q.rf) (n + 1) os r ∧ z = q.sign ++ r
theorem nil_cps : ("" : Str).cps = #[] := by decide +kernel
theorem app_cps (a b : Str) : (a ++ b).cps = a.cps ++ b.cps := rfl
theorem str_eq {a b : Str} (h : a.cps = b.cps) : a = b := by
  cases a; cases b; cases h; rfl
theorem str_nil (z : Str) : z ++ ("" : Str) = z := str_eq (by rw [app_cps, nil_cps, Array.append_empty])
theorem readsOf_snoc {s : Sp2} {n : Nat} {done : List Opt} {q : Opt} {os : List (List Opt)} {z : Str} : ReadsOf s n (done ++ [q]) os z ↔ ReadsOf s n done os z ∨ (Fits s q.fl q.rf ∧ ∃ r, Reads (joinF s n q.fl q.rf) (n + 1) os r ∧ z = q.sign ++ r) := by
  unfold ReadsOf
  constructor
  · rintro ⟨p, hp, h⟩
    rcases List.mem_append.mp hp with hp | hp
    · exact .inl ⟨p, hp, h⟩
    · rw [List.mem_singleton] at hp
      subst hp
      exact .inr h
  · rintro (⟨p, hp, h⟩ | h)
    · exact ⟨p, by simp [hp], h⟩
    · exact ⟨q, by simp, h⟩

theorem app_len (a b : Str) : (a ++ b).length = a.length + b.length := by
  show (a ++ b).cps.size = a.cps.size + b.cps.size
  rw [app_cps, Array.size_append]
theorem nil_len : ("" : Str).length = 0 := by decide +kernel
theorem reads_len : ∀ (os : List (List Opt)) (s : Sp2) (n : Nat) (z : Str), OptsOk n os → Reads s n os z → z.length = os.length
  | [], _, _, z, _, h => by rw [show z = "" from h]; rfl
  | o :: os, s, n, z, O, ⟨q, hq, _, r, hr, hz⟩ => by
    rw [hz, app_len, (O.1 q hq).2.1, reads_len os _ _ r O.2 hr, List.length_cons]
    omega
theorem walk_keyS (rs : List Str) : (rs.map keyS).map (fun p => keyD p.1) = rs.map .str := by
  rw [List.map_map]
  rfl
theorem go_texts (F : PF) (Q : PEnds) (t : PTS) (k : Nat) (hF0 : ∀ as P, FtextsAt k as P → F as P) (n : Nat) (s : Sp2) (o : List Opt) (os : List (List Opt)) (hk : os.length = k) (h0 : 0 < n) (hn : n + os.length + 1 ≤ 1000) (O : OptsOk (n + 1) os) (hc : (o.length) * cnt os ≤ 16000000) : ∀ (qs done : List Opt) (ks : List Str) (x3 x4 x5 x6 : PV),
    o = done ++ qs → (∀ q ∈ qs, Bnds q.fl q.rf n ∧ q.sign.length = 1) → ks.Nodup → (∀ z, z ∈ ks ↔ ReadsOf s n done os z) → ks.length ≤ done.length * cnt os →
    (∀ (ks : List Str) x3 x4 x5 x6, ks.Nodup → (∀ z, z ∈ ks ↔ ReadsOf s n o os z) → ks.length ≤ o.length * cnt os → t Q [.d (tabD n s), .d (optsD (o :: os)), .own (kd (ks.map keyS)), x3, x4, x5, x6]) →
    forP (aTup 3 (aCons (aName 3) (aCons (aName 4) (aCons (aName 5) aNil)))) (ftTurn F) { Q with nx := t Q } (qs.map Opt.d) [.d (tabD n s), .d (optsD (o :: os)), .own (kd (ks.map keyS)), x3, x4, x5, x6]
  | [], done, ks, x3, x4, x5, x6, e, _, nd, mem, len, q => by
    rw [List.append_nil] at e
    subst e
    exact q ks x3 x4 x5 x6 nd mem len
  | p :: qs, done, ks, x3, x4, x5, x6, e, hq, nd, mem, len, q => by
    obtain ⟨B, hs⟩ := hq p (by simp)
    have e' : o = (done ++ [p]) ++ qs := by rw [e]; simp
    have hdl : done.length + 1 ≤ o.length := by rw [e]; simp
    have hmul : (done.length + 1) * cnt os ≤ o.length * cnt os := Nat.mul_le_mul hdl (Nat.le_refl _)
    have hmul2 : (done.length + 1) * cnt os = done.length * cnt os + cnt os := Nat.succ_mul _ _
    have ih := fun ks x3 x4 x5 x6 nd mem len => go_texts F Q t k hF0 n s o os hk h0 hn O hc qs (done ++ [p]) ks x3 x4 x5 x6 e' (fun r hr => hq r (by simp [hr])) nd mem len q
    have same : ∀ x3 x4 x5 x6, ¬ Fits s p.fl p.rf → forP (aTup 3 (aCons (aName 3) (aCons (aName 4) (aCons (aName 5) aNil)))) (ftTurn F) { Q with nx := t Q } (qs.map Opt.d) [.d (tabD n s), .d (optsD (o :: os)), .own (kd (ks.map keyS)), x3, x4, x5, x6] := fun x3 x4 x5 x6 hF => by
      refine ih ks x3 x4 x5 x6 nd (fun z => ?_) (by simp; omega)
      rw [mem, readsOf_snoc]
      exact ⟨.inl, fun h => h.elim id fun h => absurd h.1 hF⟩
    have el : optsD (o :: os) = .list (optD o :: os.map optD) := rfl
    unfold ftTurn at ih same ⊢
    rw [el] at ih same ⊢
    walk_at "pd"
    walk_at "pp"
    cases os with
    | nil =>
      rw [decide_eq_true (by simp)]
      walk_at "pd"
      rw [has_keyS]
      by_cases hz : p.sign ∈ ks
      · rw [decide_eq_true hz]
        walk_at "pt"
        refine ih ks _ _ _ _ nd (fun z => ?_) (by simp [cnt] at len ⊢; omega)
        rw [mem, readsOf_snoc]
        refine ⟨.inl, fun h => h.elim id fun ⟨_, r, hr, e⟩ => ?_⟩
        rw [show r = "" from hr, str_nil] at e
        rw [e]
        exact (mem _).mp hz
      · rw [decide_eq_false hz]
        walk_at "pt"
        refine ⟨n, s, p.fl, p.rf, rfl, B.f, B.r, fun hF => ?_, fun hF => ?_⟩
        · walk_at "pd"
          refine ⟨by rw [List.length_map, line_eq]; simp only [cnt] at len hc; omega, ?_⟩
          rw [put_keyS]
          have := add1_len ks p.sign
          refine ih (add1 ks p.sign) _ _ _ _ (add1_nodup nd) (fun z => ?_) (by simp [cnt] at len ⊢; omega)
          rw [add1_mem, mem, readsOf_snoc]
          refine ⟨fun h => h.elim .inl fun e => .inr ⟨hF, "", rfl, by rw [str_nil]; exact e⟩, fun h => h.elim .inl fun ⟨_, r, hr, e⟩ => ?_⟩
          rw [show r = "" from hr, str_nil] at e
          exact .inr e
        · walk_at "pd"
          exact same _ _ _ _ hF
    | cons o2 os2 =>
      rw [decide_eq_false (by simp; omega)]
      walk_at "pd"
      refine ⟨n, s, p.fl, p.rf, rfl, B.f, B.r, fun hF => ?_, fun hF => ?_⟩
      · walk_at "pd"
        refine ⟨n, s, p.fl, p.rf, rfl, by omega, B, ?_⟩
        rw [List.length_cons] at hk hn
        subst hk
        have hc2 : cnt (o2 :: os2) ≤ 16000000 := by
          have : 1 * cnt (o2 :: os2) ≤ o.length * cnt (o2 :: os2) := Nat.mul_le_mul (by omega) (Nat.le_refl _)
          omega
        refine hF0 _ _ ?_
        refine ⟨n + 1, joinF s n p.fl p.rf, o2 :: os2, ?_, rfl, by omega, by rw [List.length_cons]; omega, O, hc2, fun rs nd2 mem2 len2 => ⟨rs.map keyS, rfl, fun _ => ?_⟩⟩
        · rw [show (PyData.list (cutD (optD o :: optD o2 :: os2.map optD) (some 1) none)) = optsD (o2 :: os2) by rw [cut1]; rfl]
        · rw [walk_keyS]
          have hlen : ks.length + rs.length ≤ 16000000 := by omega
          refine go_put _ _ _ _ _ p.sign hs rs ks _ hlen (fun z hz => ?_) fun y6 => ?_
          · rw [reads_len _ _ _ z O ((mem2 z).mp hz), List.length_cons]
            omega
          · have := addAll_len (rs.map fun z => p.sign ++ z) ks
            rw [List.length_map] at this
            refine ih _ _ _ _ _ (addAll_nodup _ nd) (fun z => ?_) (by simp only [List.length_append, List.length_cons, List.length_nil, Nat.zero_add]; omega)
            rw [addAll_mem, mem, readsOf_snoc, List.mem_map]
            refine ⟨fun h => h.elim .inl fun ⟨r, hr, e⟩ => .inr ⟨hF, r, (mem2 r).mp hr, e.symm⟩, fun h => h.elim .inl fun ⟨_, r, hr, e⟩ => .inr ⟨r, (mem2 r).mpr hr, e.symm⟩⟩
      · walk_at "pd"
        exact same _ _ _ _ hF
def rd_found_texts (F_found_texts : PF) : PTS :=
  (sSeq (sOwnK 2)
  (sSeq (sFor (dIter (dBin fIx (dVar 1) (dC (.int 0)))) (aTup 3 (aCons (aName 3) (aCons (aName 4) (aCons (aName 5) aNil)))) (sIf (dTest (dBin fEq (dApp fLen (dCons (dVar 1) dNil)) (dC (.int 1)))) (sIf (dAnd (dTest (dInO 2 true (dVar 3))) (dTru (dCall F_fits (vCons (vE (dVar 0)) (vCons (vE (dVar 4)) (vCons (vE (dVar 5)) vNil)))))) (sPutK 2 (dVar 3) (dC (.bool true))) sNext) (sIf (dTru (dCall F_fits (vCons (vE (dVar 0)) (vCons (vE (dVar 4)) (vCons (vE (dVar 5)) vNil))))) (sFor (dIterD (dCall F_found_texts (vCons (vE (dCall F_joined (vCons (vE (dVar 0)) (vCons (vE (dVar 4)) (vCons (vE (dVar 5)) vNil))))) (vCons (vE (dSl (dVar 1) (dPart (dC (.int 1))) dNoPart)) vNil)))) (aName 6) (sPutK 2 (dBin fAdd (dVar 3) (dVar 6)) (dC (.bool true)))) sNext)))
  (sRet (dVar 2))))

theorem hold_texts (F : PF) (k : Nat) (hF0 : ∀ as P, FtextsAt k as P → F as P) : ∀ as Q, FtextsAt (k + 1) as Q → rd_found_texts F { nx := fun _ => Q .none, rt := Q } (startP ["spans", "options", "texts", "sign", "floors", "roofs", "rest"] as) := by
  rintro _ Q ⟨n, s, os, rfl, hk, h0, hn, O, hc, q⟩
  cases os with
  | nil => cases hk
  | cons o os =>
    rw [List.length_cons] at hk hn
    have hk : os.length = k := by omega
    have key := fun x3 x4 x5 x6 => go_texts F { nx := fun _ => Q .none, rt := Q } (sRet (dVar 2)) k hF0 n s o os hk h0 (by omega) O.2 hc o [] [] x3 x4 x5 x6 rfl (fun r hr => ⟨(O.1 r hr).1, (O.1 r hr).2.1⟩) .nil (fun z => by simp [ReadsOf]) (by simp) fun ks x3 x4 x5 x6 nd mem len => by
      walk_at "pd"
      exact q ks nd mem len
    show sSeq _ (sSeq (sFor _ _ (ftTurn F)) _) _ _
    rw [show optsD (o :: os) = .list (optD o :: os.map optD) from rfl] at key ⊢
    generalize ftTurn F = T at key ⊢
    walk_at "pd"
    rw [show optD o = .list (o.map Opt.d) from rfl] at key ⊢
    walk_at "pd"
    intro _
    exact key _ _ _ _

/-! ### found_spans -/
def FspansAt : Nat → PF
  | 0 => fun _ _ => False
  | k + 1 => fun as P => ∃ (n : Nat) (s : Sp2) (os : List (List Opt)) (z : Str), as = [.d (tabD n s), .d (optsD os), .d (.str z)] ∧ os.length = k ∧ 0 < n ∧ n + os.length ≤ 1000 ∧ Closed s n ∧ OptsOk n os ∧ z.length = os.length ∧
    (¬ Reads s n os z → P .none) ∧ (∀ (u : Sp2), Closed u (n + os.length) → (∀ t, Sol u (n + os.length) t → Sol s n t ∧ Path t n os z) → P (tabD (n + os.length) u))
theorem len_spans (k : Nat) : ∀ as P, FspansAt k as P → as.length = 3 := by
  cases k with
  | zero => intro _ _ h; exact h.elim
  | succ k => rintro _ P ⟨_, _, _, _, rfl, _⟩; rfl
theorem str_list {a b : Str} (h : a.cps.toList = b.cps.toList) : a = b := str_eq (by
  have := congrArg List.toArray h
  simpa using this)
theorem app_list' (a b : Str) : (a ++ b).cps.toList = a.cps.toList ++ b.cps.toList := by rw [app_cps, Array.toList_append]
/-- a text of a sign and more -/
theorem str_split {z : Str} {c : Nat} {r : List Nat} (h : z.cps.toList = c :: r) : atI z.cps.toList 0 = some c ∧ (cutS z (some 1) none).cps.toList = r := by
  constructor
  · rw [h]; exact atI_nat (j := 0) rfl
  · rw [cutS1, h]; rfl
theorem len_list (z : Str) : z.length = z.cps.toList.length := by simp [Str.length]
def fsTurn (F : PF) : PTS := (sIf (dAnd (dTest (dBin fEq (dVar 3) (dBin fIx (dVar 2) (dC (.int 0))))) (dTru (dCall F_fits (vCons (vE (dVar 0)) (vCons (vE (dVar 4)) (vCons (vE (dVar 5)) vNil)))))) (sSeq (sAsg (dCall F (vCons (vE (dCall F_joined (vCons (vE (dVar 0)) (vCons (vE (dVar 4)) (vCons (vE (dVar 5)) vNil))))) (vCons (vE (dSl (dVar 1) (dPart (dC (.int 1))) dNoPart)) (vCons (vE (dSl (dVar 2) (dPart (dC (.int 1))) dNoPart)) vNil)))) (aName 6))
  (sIf (dTest (dBin fIsNot (dVar 6) (dC .none))) (sRet (dVar 6)) sNext)) sNext)
theorem go_spans (F : PF) (Q : PEnds) (t : PTS) (k : Nat) (hF0 : ∀ as P, FspansAt k as P → F as P) (n : Nat) (s : Sp2) (o : List Opt) (os : List (List Opt)) (z : Str) (c : Nat) (r : List Nat) (hz : z.cps.toList = c :: r) (hr : r.length = os.length) (hk : os.length + 1 = k) (h0 : 0 < n) (hn : n + os.length + 1 ≤ 1000) (C : Closed s n) (O : OptsOk (n + 1) os) : ∀ (qs : List Opt) (x3 x4 x5 x6 : PV),
    (∀ q ∈ qs, q ∈ o) → (∀ q ∈ qs, Bnds q.fl q.rf n ∧ q.sign.length = 1) →
    (∀ (u : Sp2), Closed u (n + os.length + 1) → (∀ t, Sol u (n + os.length + 1) t → Sol s n t ∧ Path t n (o :: os) z) → Q.rt (tabD (n + os.length + 1) u)) →
    ((∀ q ∈ qs, ¬ (Fits s q.fl q.rf ∧ ∃ y, Reads (joinF s n q.fl q.rf) (n + 1) os y ∧ z = q.sign ++ y)) → ∀ x3 x4 x5 x6, t Q [.d (tabD n s), .d (optsD (o :: os)), .d (.str z), x3, x4, x5, x6]) →
    forP (aTup 3 (aCons (aName 3) (aCons (aName 4) (aCons (aName 5) aNil)))) (fsTurn F) { Q with nx := t Q } (qs.map Opt.d) [.d (tabD n s), .d (optsD (o :: os)), .d (.str z), x3, x4, x5, x6]
  | [], x3, x4, x5, x6, _, _, _, q => q (by simp) _ _ _ _
  | p :: qs, x3, x4, x5, x6, ho, hq, q1, q2 => by
    obtain ⟨B, hs⟩ := hq p (by simp)
    have hp := ho p (by simp)
    have next : ¬ (Fits s p.fl p.rf ∧ ∃ y, Reads (joinF s n p.fl p.rf) (n + 1) os y ∧ z = p.sign ++ y) → ∀ x3 x4 x5 x6, forP (aTup 3 (aCons (aName 3) (aCons (aName 4) (aCons (aName 5) aNil)))) (fsTurn F) { Q with nx := t Q } (qs.map Opt.d) [.d (tabD n s), .d (optsD (o :: os)), .d (.str z), x3, x4, x5, x6] := fun hno x3 x4 x5 x6 =>
      go_spans F Q t k hF0 n s o os z c r hz hr hk h0 hn C O qs x3 x4 x5 x6 (fun r hr => ho r (by simp [hr])) (fun r hr => hq r (by simp [hr])) q1 fun hall => q2 fun r hr => by
        rcases List.mem_cons.mp hr with rfl | hr
        · exact hno
        · exact hall r hr
    have el : optsD (o :: os) = .list (optD o :: os.map optD) := rfl
    unfold fsTurn at next ⊢
    rw [el] at next ⊢
    obtain ⟨z1, z2⟩ := str_split hz
    obtain ⟨c', hc'⟩ : ∃ c', p.sign.cps.toList = [c'] := by
      rw [len_list] at hs
      match h : p.sign.cps.toList, hs with
      | [a], _ => exact ⟨a, rfl⟩
    have sgn : (p.sign = ⟨#[c]⟩) ↔ c' = c := by
      constructor
      · intro e
        rw [e] at hc'
        simp at hc'
        exact hc'.symm
      · intro e
        subst e
        exact str_list hc'
    have zeq : ∀ y : Str, z = p.sign ++ y ↔ c' = c ∧ y = cutS z (some 1) none := fun y => by
      constructor
      · intro e
        have := congrArg (fun w : Str => w.cps.toList) e
        simp only [app_list', hc', hz] at this
        have h1 := (List.cons.inj this).1
        have h2 := (List.cons.inj this).2
        exact ⟨h1.symm, str_list (by rw [z2, h2]; rfl)⟩
      · rintro ⟨rfl, e⟩
        refine str_list ?_
        rw [app_list', hc', hz, e, z2]
        rfl
    walk_at "pd"
    walk_at "pp"
    have zl : z.length = os.length + 1 := by rw [len_list, hz, List.length_cons, hr]
    have zs : z.length ≤ sizeLine := by rw [line_eq]; omega
    refine ⟨zs, c, z1, ?_⟩
    walk_at "pd"
    by_cases hc : c' = c
    · rw [decide_eq_true (sgn.mpr hc)]
      walk_at "pd"
      refine ⟨n, s, p.fl, p.rf, rfl, B.f, B.r, fun hF => ?_, fun hF => ?_⟩
      · walk_at "pd"
        refine ⟨n, s, p.fl, p.rf, rfl, by omega, B, zs, ?_⟩
        subst hk
        have cz : (cutS z (some 1) none).length = os.length := by rw [len_list, z2, hr]
        refine hF0 _ _ ?_
        refine ⟨n + 1, joinF s n p.fl p.rf, os, cutS z (some 1) none, ?_, rfl, by omega, by omega, C.join B hF, O, cz, fun hno => ?_, fun u hu hall => ?_⟩
        · rw [show (PyData.list (cutD (optD o :: os.map optD) (some 1) none)) = optsD os by rw [cut1]; rfl]
        · walk_at "pd"
          refine next (fun ⟨_, y, hy, e⟩ => ?_) _ _ _ _
          obtain ⟨_, e2⟩ := (zeq y).mp e
          rw [e2] at hy
          exact hno hy
        · simp only [tabD]
          walk_at "pd"
          have e1 : n + 1 + os.length = n + os.length + 1 := by omega
          rw [e1] at hu hall ⊢
          refine q1 u hu fun t' ht' => ?_
          obtain ⟨h1, h2⟩ := hall t' ht'
          obtain ⟨h3, h4⟩ := (sol_join C B t').mp h1
          exact ⟨h3, p, hp, h4, _, h2, (zeq _).mpr ⟨hc, rfl⟩⟩
      · walk_at "pd"
        exact next (fun h => hF h.1) _ _ _ _
    · rw [decide_eq_false (fun e => hc (sgn.mp e))]
      walk_at "pt"
      exact next (fun ⟨_, y, _, e⟩ => hc ((zeq y).mp e).1) _ _ _ _
def rd_found_spans (F_found_spans : PF) : PTS :=
  (sSeq (sIf (dNot (dTru (dVar 1))) (sRet (dVar 0)) sNext)
  (sSeq (sFor (dIter (dBin fIx (dVar 1) (dC (.int 0)))) (aTup 3 (aCons (aName 3) (aCons (aName 4) (aCons (aName 5) aNil)))) (sIf (dAnd (dTest (dBin fEq (dVar 3) (dBin fIx (dVar 2) (dC (.int 0))))) (dTru (dCall F_fits (vCons (vE (dVar 0)) (vCons (vE (dVar 4)) (vCons (vE (dVar 5)) vNil)))))) (sSeq (sAsg (dCall F_found_spans (vCons (vE (dCall F_joined (vCons (vE (dVar 0)) (vCons (vE (dVar 4)) (vCons (vE (dVar 5)) vNil))))) (vCons (vE (dSl (dVar 1) (dPart (dC (.int 1))) dNoPart)) (vCons (vE (dSl (dVar 2) (dPart (dC (.int 1))) dNoPart)) vNil)))) (aName 6))
  (sIf (dTest (dBin fIsNot (dVar 6) (dC .none))) (sRet (dVar 6)) sNext)) sNext))
  (sRet (dC .none))))

theorem hold_spans (F : PF) (k : Nat) (hF0 : ∀ as P, FspansAt k as P → F as P) : ∀ as Q, FspansAt (k + 1) as Q → rd_found_spans F { nx := fun _ => Q .none, rt := Q } (startP ["spans", "options", "reading", "sign", "floors", "roofs", "found"] as) := by
  rintro _ Q ⟨n, s, os, z, rfl, hk, h0, hn, C, O, hl, q1, q2⟩
  cases os with
  | nil =>
    unfold rd_found_spans
    rw [show optsD [] = .list [] from rfl]
    walk_at "pd"
    simp only [List.isEmpty_nil]
    walk_at "pt"
    have hz : z = "" := str_list (by
      rw [len_list] at hl
      have : z.cps.toList = [] := List.length_eq_zero_iff.mp hl
      rw [this, nil_cps])
    exact q2 s C fun t ht => ⟨ht, hz⟩
  | cons o os =>
    rw [List.length_cons] at hk hn
    have hk : os.length + 1 = k := by omega
    obtain ⟨c, r, hz, hr⟩ : ∃ c r, z.cps.toList = c :: r ∧ r.length = os.length := by
      rw [len_list, List.length_cons] at hl
      match h : z.cps.toList, hl with
      | c :: r, hl => exact ⟨c, r, rfl, by simpa using hl⟩
    have key := fun x3 x4 x5 x6 => go_spans F { nx := fun _ => Q .none, rt := Q } (sRet (dC .none)) k hF0 n s o os z c r hz hr hk h0 (by omega) C O.2 o x3 x4 x5 x6 (fun _ h => h) (fun r hr => ⟨(O.1 r hr).1, (O.1 r hr).2.1⟩) q2 fun hno y3 y4 y5 y6 => by
      walk_at "pd"
      refine q1 fun ⟨q, hq, h⟩ => ?_
      exact hno q hq h
    show sSeq _ (sSeq (sFor _ _ (fsTurn F)) _) _ _
    rw [show optsD (o :: os) = .list (optD o :: os.map optD) from rfl] at key ⊢
    generalize fsTurn F = T at key ⊢
    walk_at "pd"
    simp only [List.isEmpty_cons]
    rw [show optD o = .list (o.map Opt.d) from rfl] at key ⊢
    walk_at "pt"
    intro _
    exact key _ _ _ _

/-! all levels at once -/
def FtextsUp (n : Nat) : PF := fun as P => ∃ k, k ≤ n ∧ FtextsAt k as P
def FspansUp (n : Nat) : PF := fun as P => ∃ k, k ≤ n ∧ FspansAt k as P
theorem len_textsUp (n : Nat) : ∀ as P, FtextsUp n as P → as.length = 2 := fun as P ⟨k, _, h⟩ => len_texts k as P h
theorem len_spansUp (n : Nat) : ∀ as P, FspansUp n as P → as.length = 3 := fun as P ⟨k, _, h⟩ => len_spans k as P h
theorem hold_textsUp (n : Nat) : ∀ as Q, FtextsUp (n + 1) as Q → rd_found_texts (FtextsUp n) { nx := fun _ => Q .none, rt := Q } (startP ["spans", "options", "texts", "sign", "floors", "roofs", "rest"] as) := fun as Q ⟨k, hk, h⟩ => by
  cases k with
  | zero => exact h.elim
  | succ k => exact hold_texts (FtextsUp n) k (fun as P h => ⟨k, by omega, h⟩) as Q h
theorem hold_spansUp (n : Nat) : ∀ as Q, FspansUp (n + 1) as Q → rd_found_spans (FspansUp n) { nx := fun _ => Q .none, rt := Q } (startP ["spans", "options", "reading", "sign", "floors", "roofs", "found"] as) := fun as Q ⟨k, hk, h⟩ => by
  cases k with
  | zero => exact h.elim
  | succ k => exact hold_spans (FspansUp n) k (fun as P h => ⟨k, by omega, h⟩) as Q h
/-- at most three looks -/
def F_found_texts : PF := FtextsUp 3
def F_found_spans : PF := FspansUp 4

end PF
namespace PF
open PySem L2 PD
local macro_rules | `(tactic| walk_at "pd") => `(tactic| simp only [sRet, sSeq, sIf, sNext, sNever, sAsg, sDrop, sFor, forP, sAug, sApp, sExt, sOwnL, sPar, sRow, dAndV, dOrV, dNotV, dIs, dVar, dC, dChain, dBin, dUn, fNeg, dTest, dTru, dNot, dAnd, dOr, dIf, dCall, dApp, vCons, vNil, vE, vRow, vScr, dCons, dNil, dTup, dLst, dComp, dIter, dRng1, dRng2, dZip, seqD, aName, aTup_tup, aCons, aNil, fIn0, fInt, fAdd, fOrd, fEq, fNe, fIs, fIsNot, isN, fIx_tup, fIx_lst, at0, at1, at2, at3, at_4, eqOk_int, eqv_int, eqOk_bool, eqv_bool, eqOk_str, eqv_str, eqOk_non, eqv_non, eqOk_nil, eqv_nil, decide_true, decide_false,  fLen, fTuple, fList, fAll, fAny, fIntC, truD, frz, startP, wipeP, dYes, dJoin, dIxO, dLenO, dSl, dPart, dNoPart, fSl, sRng1, sOwn2, sPutK, sOwnK, dict_kd, dInO, dIterR, dListO, dInD, dGetD, dIterD, dEnum, fListD, fListS, dIterS, kd_inj, str_keyD, int_keyD, PV.rng.injEq,
  List.map_cons, List.map_nil, List.length_cons, List.length_nil, List.replicate, List.cons_append, List.nil_append, List.append_nil, List.getElem?_cons_zero, List.getElem?_cons_succ, List.set_cons_zero, List.set_cons_succ, Option.some.injEq, PV.d.injEq, PV.own.injEq, PV.scr.injEq, PyData.int.injEq, PyData.bool.injEq, PyData.list.injEq, PyData.tuple.injEq, PyData.str.injEq, List.cons.injEq, exists_eq_left', exists_eq_left, exists_eq', exists_eq_right', and_assoc, exists_and_left, Nat.zero_add, Nat.add_zero, Nat.reduceAdd, Nat.reduceSub, Nat.reduceLT, Nat.sub_self, ite_true, if_true, if_false, Bool.false_eq_true, ite_false, Bool.not_true, Bool.not_false, Bool.true_and, Bool.and_true, Bool.false_and, Bool.and_false, Bool.true_or, Bool.or_true, Bool.false_or, Bool.or_false, Bool.and_self, true_and, and_true])
local macro_rules | `(tactic| walk_at "pt") => `(tactic| try walk_at "pd")
local macro_rules | `(tactic| walk_at "pp") => `(tactic| (simp only [wr_ix0, wr_ix1, wr_ix2, wr_ix3, wr_ix4, pl_ix0, pl_ix1, pl_ix2, pl_tup, rd_ix0, rd_ix1, rd_tup, lk_ix0, lk_ix1, lk_ix2, lk_tup, cs_ix0, cs_ix1, cs_tup, tr_tup, pr_tup, op_tup] <;> walk_at "pt"))
/-! ### what comes -/
def Paced (p : Plan) (rs : List Int) : Prop := Paired (fun (w : Wr) x => w.low ≤ x ∧ x ≤ w.high) p.writes rs
def Rested (r : Rdr) (ls : List Int) : Prop := Paired (fun (l : Lk) x => l.low ≤ x ∧ x ≤ l.high) r.looks ls
def Comes (p : Plan) (r : Rdr) (z : Str) : Prop := ∃ rs ls, Paced p rs ∧ Rested r ls ∧ textOf p r rs ls = z
structure Plan.rise (p : Plan) : Prop where
  low : ∀ w ∈ p.writes, 0 ≤ w.low ∧ w.low ≤ w.high
theorem bounds_len (p : Plan) : p.bounds.length = p.writes.length := by simp [Plan.bounds]
theorem bounds_at {p : Plan} {i : Nat} (h : i < p.bounds.length) : p.bounds[i].1 = (p.at i).low ∧ p.bounds[i].2 = (p.at i).high := by
  have h' : i < p.writes.length := by rw [bounds_len] at h; exact h
  rw [Plan.at_eq h']
  simp [Plan.bounds]
theorem Plan.rise.bounds {p : Plan} (h : p.rise) : Rising p.bounds := fun b hb => by
  obtain ⟨w, hw, rfl⟩ := List.mem_map.mp hb
  exact (h.low w hw).2
theorem rests_mono {p : Plan} (h : p.rise) {t : Nat → Int} (R : Rests p.bounds t) : Mono p.writes.length t := fun i hi => by
  have hb : i + 1 < p.bounds.length := by rw [bounds_len]; exact hi
  have := R (i + 1) hb
  obtain ⟨e1, _⟩ := bounds_at hb
  have := (h.low _ (Plan.at_mem (p := p) (k := i + 1) hi)).1
  show t (i + 1) ≤ t (i + 1 + 1)
  omega
/-- the last write that is seen -/
theorem seenGo_last (st : List Int) (c τ : Int) : ∀ (ts : List Int) (ws : List Wr) (z : Str) (r : Option Nat), ts.length = ws.length →
    Last ws.length (fun i => (ws.getD i w0).cell = c ∧ ts.getD i 0 ≤ τ ∧ τ < ts.getD i 0 + st.getD (ws.getD i w0).ink.toNat 0) r → seenGo st c τ ts ws z = match r with | none => z | some k => (ws.getD k w0).sign
  | [], [], z, r, _, h => by
    cases r with
    | none => rfl
    | some k => exact absurd h.1 (by simp)
  | t :: ts, w :: ws, z, r, hl, h => by
    have hl' : ts.length = ws.length := by simpa using hl
    unfold seenGo
    cases r with
    | none =>
      have h0 := h 0 (by simp)
      simp only [List.getD_cons_zero] at h0
      rw [if_neg h0]
      refine seenGo_last st c τ ts ws z none hl' fun i hi => ?_
      have := h (i + 1) (by simp; omega)
      simpa using this
    | some k =>
      cases k with
      | zero =>
        obtain ⟨_, h1, h2⟩ := h
        simp only [List.getD_cons_zero] at h1
        rw [if_pos h1]
        refine seenGo_last st c τ ts ws w.sign none hl' fun i hi => ?_
        have := h2 (i + 1) (by omega) (by simp; omega)
        simpa using this
      | succ k =>
        obtain ⟨h0, h1, h2⟩ := h
        have ih := seenGo_last st c τ ts ws (if w.cell = c ∧ t ≤ τ ∧ τ < t + st.getD w.ink.toNat 0 then w.sign else z) (some k) hl' ⟨by simpa using h0, by simpa using h1, fun j hj hm => by
          have := h2 (j + 1) (by omega) (by simp; omega)
          simpa using this⟩
        rw [ih]
        simp
def tickL (p : Plan) (t : Nat → Int) : List Int := (List.range p.writes.length).map fun i => t (i + 1)
def shownSign (p : Plan) : Option Nat → Str
  | none => "."
  | some k => (p.at k).sign
theorem caseSign_eq (p : Plan) (cs : Case) : caseSign p cs = shownSign p cs.2 := by
  unfold caseSign
  cases cs.2 <;> rfl
theorem seen_last {p : Plan} {t : Nat → Int} {c τ : Int} {r : Option Nat} (h : Last p.writes.length (Vis p.cell p.stay t c τ) r) : seenAt p (tickL p t) c τ = shownSign p r := by
  have hl : (tickL p t).length = p.writes.length := by simp [tickL]
  have e : ∀ i, i < p.writes.length → (tickL p t).getD i 0 = t (i + 1) := fun i hi => by simp [tickL, hi]
  unfold seenAt
  have fin : ∀ r, (match r with | none => ("." : Str) | some k => (p.writes.getD k w0).sign) = shownSign p r := fun r => by cases r <;> rfl
  rw [← fin]
  refine seenGo_last p.stays c τ (tickL p t) p.writes "." r hl ?_
  cases r with
  | none =>
    intro i hi ⟨a, b, d⟩
    rw [e i hi] at b d
    exact h i hi ⟨a, b, d⟩
  | some k =>
    obtain ⟨h0, ⟨a, b, d⟩, h2⟩ := h
    refine ⟨h0, ?_, fun j hj hm ⟨a', b', d'⟩ => ?_⟩
    · show _ ∧ _ ∧ _
      rw [e k h0]
      exact ⟨a, b, d⟩
    · rw [e j hm] at b' d'
      exact h2 j hj hm ⟨a', b', d'⟩
/-! between, case by case -/
def HoldsT (t : Nat → Int) (x : Tri) : Prop := t x.1 ≤ t x.2.1 + x.2.2
theorem between_all {t : Nat → Int} {e : Nat} : ∀ l : List Tri, (∀ x ∈ l, x.1 = e ∨ x.2.1 = e) → (Between (floorsOf e l) (roofsOf e l) t e ↔ ∀ x ∈ l, HoldsT t x)
  | l, hl => by
    unfold Between floorsOf roofsOf
    constructor
    · rintro ⟨h1, h2⟩ x hx
      rcases hl x hx with h | h
      · have := h2 (x.2.1, x.2.2) (List.mem_filterMap.mpr ⟨x, hx, by rw [if_pos h]⟩)
        show t x.1 ≤ _
        rw [h]
        exact this
      · have := h1 (x.1, x.2.2) (List.mem_filterMap.mpr ⟨x, hx, by rw [if_pos h]⟩)
        show _ ≤ t x.2.1 + _
        rw [h]
        exact this
    · intro h
      constructor
      · intro f hf
        obtain ⟨x, hx, e1⟩ := List.mem_filterMap.mp hf
        split at e1
        · next h' =>
          cases e1
          have := h x hx
          unfold HoldsT at this
          rw [h'] at this
          exact this
        · cases e1
      · intro f hf
        obtain ⟨x, hx, e1⟩ := List.mem_filterMap.mp hf
        split at e1
        · next h' =>
          cases e1
          have := h x hx
          unfold HoldsT at this
          rw [h'] at this
          exact this
        · cases e1
theorem gone_iff {p : Plan} {t : Nat → Int} {e : Nat} {c : Int} {cs : Case} : (∀ x ∈ goneOf p e c cs, HoldsT t x) ↔ ∀ k, laterOf cs.2 ≤ k → k < cs.1 → p.cell k = c → t (k + 1) ≤ t e - p.stay k := by
  unfold goneOf
  constructor
  · intro h k h1 h2 h3
    have := h (k + 1, e, -p.stay k) (List.mem_filterMap.mpr ⟨k, List.mem_map.mpr ⟨k - laterOf cs.2, List.mem_range.mpr (by omega), by omega⟩, by rw [if_pos h3]⟩)
    unfold HoldsT at this
    simp only at this
    omega
  · intro h x hx
    obtain ⟨k, hk, e1⟩ := List.mem_filterMap.mp hx
    obtain ⟨i, hi, rfl⟩ := List.mem_map.mp hk
    have hi := List.mem_range.mp hi
    split at e1
    · next h' =>
      cases e1
      have := h _ (by omega) (by omega) h'
      unfold HoldsT
      simp only
      omega
    · cases e1
theorem later_eq (o : Option Nat) : laterOf o = later o := by cases o <;> rfl
theorem diffs_iff {p : Plan} {t : Nat → Int} {e : Nat} {c : Int} {cs : Case} (ok : CaseOk p c cs) : (∀ x ∈ caseDiffs p e c cs, HoldsT t x) ↔ CaseSat p.cell p.stay p.writes.length t c (t e) cs.1 cs.2 := by
  unfold caseDiffs
  simp only [List.forall_mem_append, gone_iff]
  constructor
  · rintro ⟨⟨⟨h1, h2⟩, h3⟩, h4⟩
    refine ⟨ok.le, fun h => ?_, fun h => ?_, fun k hk => ?_, fun j hj hd hc => h4 j (by rw [later_eq]; exact hj) hd hc⟩
    · rw [if_pos h] at h1
      have := h1 (cs.1, e, 0) (by simp)
      unfold HoldsT at this
      simp only at this
      omega
    · rw [if_pos h] at h2
      have := h2 (e, cs.1 + 1, -1) (by simp)
      unfold HoldsT at this
      simp only at this
      omega
    · obtain ⟨a, b⟩ := ok.lt k hk
      refine ⟨a, b, ?_⟩
      unfold thereOf at h3
      rw [hk] at h3
      exact h3 (e, k + 1, p.stay k - 1) (by simp)
  · intro h
    refine ⟨⟨⟨fun x hx => ?_, fun x hx => ?_⟩, fun x hx => ?_⟩, fun j hj hd hc => h.gone j (by rw [← later_eq]; exact hj) hd hc⟩
    · split at hx
      · next h' =>
        rw [List.mem_singleton] at hx
        subst hx
        have := h.up h'
        unfold HoldsT
        simp only
        omega
      · cases hx
    · split at hx
      · next h' =>
        rw [List.mem_singleton] at hx
        subst hx
        have := h.dn h'
        unfold HoldsT
        simp only
        omega
      · cases hx
    · unfold thereOf at hx
      split at hx
      · cases hx
      · next k hk =>
        rw [List.mem_singleton] at hx
        subst hx
        exact (h.there k hk).2.2
theorem diffs_ends {p : Plan} {e : Nat} {c : Int} {cs : Case} : ∀ x ∈ caseDiffs p e c cs, x.1 = e ∨ x.2.1 = e := by
  unfold caseDiffs
  simp only [List.forall_mem_append]
  refine ⟨⟨⟨fun x hx => ?_, fun x hx => ?_⟩, fun x hx => ?_⟩, fun x hx => ?_⟩
  · split at hx
    · rw [List.mem_singleton] at hx; subst hx; exact .inr rfl
    · cases hx
  · split at hx
    · rw [List.mem_singleton] at hx; subst hx; exact .inl rfl
    · cases hx
  · unfold thereOf at hx
    split at hx
    · cases hx
    · rw [List.mem_singleton] at hx; subst hx; exact .inl rfl
  · unfold goneOf at hx
    obtain ⟨k, _, e1⟩ := List.mem_filterMap.mp hx
    split at e1
    · cases e1; exact .inr rfl
    · cases e1
def lookIn (p : Plan) (r : Rdr) (t : Nat → Int) (j : Nat) : Prop := (lookAt r j).low ≤ t (evOf p j) - t (aheadOf p r j) ∧ t (evOf p j) - t (aheadOf p r j) ≤ (lookAt r j).high
theorem look_iff {p : Plan} {r : Rdr} {t : Nat → Int} {j : Nat} {cs : Case} (ok : CaseOk p (lookAt r j).cell cs) : Between (lookOpt p r j cs).fl (lookOpt p r j cs).rf t (evOf p j) ↔ lookIn p r t j ∧ CaseSat p.cell p.stay p.writes.length t (lookAt r j).cell (t (evOf p j)) cs.1 cs.2 := by
  show Between (floorsOf _ _) (roofsOf _ _) _ _ ↔ _
  rw [between_all]
  · unfold lookDiffs
    simp only [List.forall_mem_append, diffs_iff ok]
    refine and_congr ?_ Iff.rfl
    simp only [List.forall_mem_cons, HoldsT, lookIn]
    constructor
    · rintro ⟨h1, h2, _⟩
      omega
    · rintro ⟨h1, h2⟩
      exact ⟨by omega, by omega, by simp⟩
  · unfold lookDiffs
    simp only [List.forall_mem_append]
    refine ⟨fun x hx => ?_, diffs_ends⟩
    simp only [List.mem_cons, List.not_mem_nil, or_false] at hx
    rcases hx with rfl | rfl
    · exact .inr rfl
    · exact .inl rfl
def signT (p : Plan) (r : Rdr) (t : Nat → Int) (j : Nat) : Str := seenAt p (tickL p t) (lookAt r j).cell (t (evOf p j))
def cat : List Str → Str
  | [] => ""
  | z :: l => z ++ cat l
theorem case_sign_eq {p : Plan} {t : Nat → Int} {c τ : Int} {cs : Case} (M : Mono p.writes.length t) (h : CaseSat p.cell p.stay p.writes.length t c τ cs.1 cs.2) : caseSign p cs = seenAt p (tickL p t) c τ := by
  rw [seen_last (h.last M), caseSign_eq]
theorem path_iff {p : Plan} {r : Rdr} {t : Nat → Int} (M : Mono p.writes.length t) : ∀ (m j : Nat) (z : Str), Path t (evOf p j) (((List.range m).map fun i => j + i).map (lookOpts p r)) z ↔ (∀ i, i < m → lookIn p r t (j + i)) ∧ z = cat (((List.range m).map fun i => j + i).map (signT p r t))
  | 0, j, z => by simp [Path, cat]
  | m + 1, j, z => by
    have e : (List.range (m + 1)).map (fun i => j + i) = j :: (List.range m).map fun i => j + 1 + i := by
      rw [List.range_succ_eq_map, List.map_cons, List.map_map]
      congr 1
      refine List.map_congr_left fun i _ => ?_
      simp only [Function.comp]
      omega
    rw [e, List.map_cons, List.map_cons]
    have ih := fun y => path_iff (r := r) M m (j + 1) y
    have ev : evOf p j + 1 = evOf p (j + 1) := by unfold evOf; omega
    have split : (∀ i, i < m + 1 → lookIn p r t (j + i)) ↔ lookIn p r t j ∧ ∀ i, i < m → lookIn p r t (j + 1 + i) := by
      constructor
      · intro h
        refine ⟨by simpa using h 0 (by omega), fun i hi => ?_⟩
        have := h (i + 1) (by omega)
        rwa [show j + (i + 1) = j + 1 + i by omega] at this
      · rintro ⟨h0, h⟩ i hi
        cases i with
        | zero => simpa using h0
        | succ i =>
          have := h i (by omega)
          rwa [show j + 1 + i = j + (i + 1) by omega] at this
    rw [split]
    show (∃ q ∈ lookOpts p r j, Between q.fl q.rf t (evOf p j) ∧ ∃ y, Path t (evOf p j + 1) _ y ∧ z = q.sign ++ y) ↔ _
    rw [ev]
    constructor
    · rintro ⟨q, hq, hb, y, hy, hz⟩
      obtain ⟨cs, hcs, rfl⟩ := List.mem_map.mp hq
      obtain ⟨h1, h2⟩ := (look_iff (mem_cases.mp hcs)).mp hb
      obtain ⟨h3, h4⟩ := (ih y).mp hy
      refine ⟨⟨h1, h3⟩, ?_⟩
      rw [hz, h4, cat]
      show caseSign p cs ++ _ = _
      rw [case_sign_eq M h2]
      rfl
    · rintro ⟨⟨h1, h3⟩, hz⟩
      obtain ⟨d, k, hcs⟩ := case_ex (cell := p.cell) (stay := p.stay) (c := (lookAt r j).cell) (τ := t (evOf p j)) M
      have ok : CaseOk p (lookAt r j).cell (d, k) := ⟨hcs.le, fun k' hk' => ⟨(hcs.there k' hk').1, (hcs.there k' hk').2.1⟩⟩
      refine ⟨lookOpt p r j (d, k), List.mem_map.mpr ⟨_, mem_cases.mpr ok, rfl⟩, (look_iff ok).mpr ⟨h1, hcs⟩, _, (ih _).mpr ⟨h3, rfl⟩, ?_⟩
      rw [hz, cat]
      show _ = caseSign p (d, k) ++ _
      rw [case_sign_eq M hcs]
      rfl

end PF
namespace PF
open PySem L2 PD
local macro_rules | `(tactic| walk_at "pd") => `(tactic| simp only [sRet, sSeq, sIf, sNext, sNever, sAsg, sDrop, sFor, forP, sAug, sApp, sExt, sOwnL, sPar, sRow, dAndV, dOrV, dNotV, dIs, dVar, dC, dChain, dBin, dUn, fNeg, dTest, dTru, dNot, dAnd, dOr, dIf, dCall, dApp, vCons, vNil, vE, vRow, vScr, dCons, dNil, dTup, dLst, dComp, dIter, dRng1, dRng2, dZip, seqD, aName, aTup_tup, aCons, aNil, fIn0, fInt, fAdd, fOrd, fEq, fNe, fIs, fIsNot, isN, fIx_tup, fIx_lst, at0, at1, at2, at3, at_4, eqOk_int, eqv_int, eqOk_bool, eqv_bool, eqOk_str, eqv_str, eqOk_non, eqv_non, eqOk_nil, eqv_nil, decide_true, decide_false,  fLen, fTuple, fList, fAll, fAny, fIntC, truD, frz, startP, wipeP, dYes, dJoin, dIxO, dLenO, dSl, dPart, dNoPart, fSl, sRng1, sOwn2, sPutK, sOwnK, dict_kd, dInO, dIterR, dListO, dInD, dGetD, dIterD, dEnum, fListD, fListS, dIterS, kd_inj, str_keyD, int_keyD, PV.rng.injEq,
  List.map_cons, List.map_nil, List.length_cons, List.length_nil, List.replicate, List.cons_append, List.nil_append, List.append_nil, List.getElem?_cons_zero, List.getElem?_cons_succ, List.set_cons_zero, List.set_cons_succ, Option.some.injEq, PV.d.injEq, PV.own.injEq, PV.scr.injEq, PyData.int.injEq, PyData.bool.injEq, PyData.list.injEq, PyData.tuple.injEq, PyData.str.injEq, List.cons.injEq, exists_eq_left', exists_eq_left, exists_eq', exists_eq_right', and_assoc, exists_and_left, Nat.zero_add, Nat.add_zero, Nat.reduceAdd, Nat.reduceSub, Nat.reduceLT, Nat.sub_self, ite_true, if_true, if_false, Bool.false_eq_true, ite_false, Bool.not_true, Bool.not_false, Bool.true_and, Bool.and_true, Bool.false_and, Bool.and_false, Bool.true_or, Bool.or_true, Bool.false_or, Bool.or_false, Bool.and_self, true_and, and_true])
local macro_rules | `(tactic| walk_at "pt") => `(tactic| try walk_at "pd")
local macro_rules | `(tactic| walk_at "pp") => `(tactic| (simp only [wr_ix0, wr_ix1, wr_ix2, wr_ix3, wr_ix4, pl_ix0, pl_ix1, pl_ix2, pl_tup, rd_ix0, rd_ix1, rd_tup, lk_ix0, lk_ix1, lk_ix2, lk_tup, cs_ix0, cs_ix1, cs_tup, tr_tup, pr_tup, op_tup] <;> walk_at "pt"))
theorem sums_tel : ∀ (m : Nat) (f : Nat → Int), sums (f 0) ((List.range m).map fun i => f (i + 1) - f i) = (List.range m).map fun i => f (i + 1)
  | 0, _ => rfl
  | m + 1, f => by
    have ih := sums_tel m fun i => f (i + 1)
    rw [List.range_succ_eq_map, List.map_cons, List.map_cons, List.map_map, List.map_map, sums]
    have e : f 0 + (f (0 + 1) - f 0) = f (0 + 1) := by omega
    rw [e]
    congr 1
theorem path_shift {t : Nat → Int} (d : Int) : ∀ (os : List (List Opt)) (n : Nat) (z : Str), Path t n os z → Path (fun x => t x - d) n os z
  | [], _, _, h => h
  | o :: os, n, z, ⟨q, hq, ⟨b1, b2⟩, y, hy, hz⟩ => by
    refine ⟨q, hq, ⟨fun f hf => ?_, fun f hf => ?_⟩, y, path_shift d os _ _ hy, hz⟩
    · have := b1 f hf
      show t f.1 - d ≤ t n - d + f.2
      omega
    · have := b2 f hf
      show t n - d ≤ t f.1 - d + f.2
      omega
theorem fold_cat : ∀ (l : List Str) (a : Str), (⟨l.foldl (fun acc p => acc ++ ("" : Str).cps ++ p.cps) a.cps⟩ : Str) = a ++ cat l
  | [], a => (str_nil a).symm
  | z :: l, a => by
    have ih := fold_cat l (a ++ z)
    rw [List.foldl_cons, cat]
    have e : a.cps ++ ("" : Str).cps ++ z.cps = (a ++ z).cps := by rw [nil_cps, Array.append_empty, app_cps]
    rw [e, ih]
    exact str_eq (by simp only [app_cps, Array.append_assoc])
theorem txt_cat : ∀ l : List Str, Txt.join "" l = cat l
  | [] => str_eq (by rw [cat, nil_cps]; rfl)
  | z :: l => fold_cat l z
theorem allOpts_eq (p : Plan) (r : Rdr) : allOpts p r = ((List.range r.looks.length).map fun i => 0 + i).map (lookOpts p r) := by
  unfold allOpts
  rw [List.map_map]
  exact List.map_congr_left fun i _ => by simp
theorem paired_getD {α : Type} {R : α → Int → Prop} {d : α} : ∀ {xs : List α} {ys : List Int}, Paired R xs ys → ∀ i, i < xs.length → R (xs.getD i d) (ys.getD i 0)
  | _, _, .nil, i, h => by simp at h
  | _, _, .cons h _, 0, _ => by simpa using h
  | _, _, .cons _ t, i + 1, h => by simpa using paired_getD t i (by simpa using h)
theorem paired_of {α : Type} {R : α → Int → Prop} {d : α} : ∀ {xs : List α} {ys : List Int}, xs.length = ys.length → (∀ i, i < xs.length → R (xs.getD i d) (ys.getD i 0)) → Paired R xs ys
  | [], [], _, _ => .nil
  | [], _ :: _, h, _ => by simp at h
  | _ :: _, [], h, _ => by simp at h
  | x :: xs, y :: ys, h, H => .cons (by simpa using H 0 (by simp)) (paired_of (by simpa using h) fun i hi => by simpa using H (i + 1) (by simpa using hi))
/-- the timetable of ticks -/
def paceT (p : Plan) (t : Nat → Int) : List Int := (List.range p.writes.length).map fun i => t (i + 1) - t i
def restT (p : Plan) (r : Rdr) (t : Nat → Int) : List Int := (List.range r.looks.length).map fun j => t (evOf p j) - t (aheadOf p r j)
theorem pace_sums {p : Plan} {t : Nat → Int} (h0 : t 0 = 0) : sums 0 (paceT p t) = tickL p t := by
  have := sums_tel p.writes.length t
  rw [h0] at this
  exact this
theorem start_at {p : Plan} {r : Rdr} {t : Nat → Int} (h0 : t 0 = 0) (hs : startEv r ≤ p.writes.length) : startTick r (tickL p t) = t (startEv r) := by
  unfold startTick startEv at *
  cases e : r.start with
  | none => simp [h0]
  | some k =>
    rw [e] at hs
    simp only at hs ⊢
    simp [tickL, show k < p.writes.length by omega]
theorem rest_sums {p : Plan} {r : Rdr} {t : Nat → Int} : sums (t (startEv r)) (restT p r t) = (List.range r.looks.length).map fun j => t (evOf p j) := by
  have := sums_tel r.looks.length fun j => match j with | 0 => t (startEv r) | j + 1 => t (evOf p j)
  simp only at this
  unfold restT
  rw [← this]
  congr 1
  refine List.map_congr_left fun j _ => ?_
  cases j with
  | zero => rfl
  | succ j =>
    have : aheadOf p r (j + 1) = evOf p j := by unfold aheadOf evOf; simp; omega
    rw [this]
theorem zip_range {α : Type} (d : α) (g : Nat → Int) : ∀ l : List α, l.zip ((List.range l.length).map g) = (List.range l.length).map fun j => (l.getD j d, g j) := by
  intro l
  apply List.ext_getElem
  · simp
  · intro i h1 h2
    simp at h1 h2 ⊢
    simp [h1]
theorem text_cat {p : Plan} {r : Rdr} {t : Nat → Int} (h0 : t 0 = 0) (hs : startEv r ≤ p.writes.length) : textOf p r (paceT p t) (restT p r t) = cat (((List.range r.looks.length).map fun i => 0 + i).map (signT p r t)) := by
  unfold textOf momentsOf
  rw [pace_sums h0, start_at h0 hs, rest_sums, txt_cat, zip_range ⟨0, 0, 0⟩, List.map_map, List.map_map]
  congr 1
  refine List.map_congr_left fun j _ => ?_
  simp [signT, lookAt]
/-- ticks of a timetable -/
def tickOf (r : Rdr) (rs ls : List Int) (k : Nat) : Int := (0 :: (sums 0 rs ++ momentsOf r rs ls)).getD k 0
theorem tickOf_low {r : Rdr} {rs ls : List Int} {k : Nat} (h : k ≤ rs.length) : tickOf r rs ls k = pre rs k := by
  unfold tickOf
  have e : (0 :: sums 0 rs)[k]? = some (pre rs k) := by
    have := sums_at rs 0 k h
    simpa using this
  rw [← List.cons_append, List.getD_eq_getElem?_getD, List.getElem?_append_left (by rw [List.length_cons, sums_length]; omega), e]
  rfl
theorem tickOf_high {r : Rdr} {rs ls : List Int} {j : Nat} (h : j < ls.length) : tickOf r rs ls (rs.length + 1 + j) = startTick r (sums 0 rs) + pre ls (j + 1) := by
  unfold tickOf
  have e : (startTick r (sums 0 rs) :: momentsOf r rs ls)[j + 1]? = some (startTick r (sums 0 rs) + pre ls (j + 1)) := sums_at ls _ (j + 1) (by omega)
  rw [List.getElem?_cons_succ] at e
  rw [← List.cons_append, List.getD_eq_getElem?_getD, List.getElem?_append_right (by rw [List.length_cons, sums_length]; omega), List.length_cons, sums_length, show rs.length + 1 + j - (rs.length + 1) = j by omega, e]
  rfl
theorem sums_getD {l : List Int} {k : Nat} (h : k < l.length) : (sums 0 l).getD k 0 = pre l (k + 1) := by
  have := sums_at l 0 (k + 1) (by omega)
  rw [List.getElem?_cons_succ] at this
  rw [List.getD_eq_getElem?_getD, this]
  simp
theorem tickOf_start {r : Rdr} {rs ls : List Int} (h : startEv r ≤ rs.length) : tickOf r rs ls (startEv r) = startTick r (sums 0 rs) := by
  rw [tickOf_low h]
  unfold startEv startTick at *
  cases e : r.start with
  | none => simp [pre_zero]
  | some k =>
    rw [e] at h
    simp only at h ⊢
    rw [sums_getD (by omega)]
theorem tickOf_ahead {p : Plan} {r : Rdr} {rs ls : List Int} (hr : rs.length = p.writes.length) (h : startEv r ≤ rs.length) {j : Nat} (hj : j < ls.length) : tickOf r rs ls (aheadOf p r j) = startTick r (sums 0 rs) + pre ls j := by
  cases j with
  | zero =>
    show tickOf r rs ls (startEv r) = _
    rw [tickOf_start h, pre_zero]
    omega
  | succ j =>
    have : aheadOf p r (j + 1) = rs.length + 1 + j := by unfold aheadOf; simp; omega
    rw [this, tickOf_high (by omega)]
theorem pace_back {p : Plan} {r : Rdr} {rs ls : List Int} (hr : rs.length = p.writes.length) : paceT p (tickOf r rs ls) = rs := by
  apply List.ext_getElem
  · simp [paceT, hr]
  · intro i h1 h2
    simp only [paceT, List.getElem_map, List.getElem_range]
    rw [tickOf_low (by omega), tickOf_low (by omega), pre_succ _ _ h2]
    simp [h2]
    omega
theorem rest_back {p : Plan} {r : Rdr} {rs ls : List Int} (hr : rs.length = p.writes.length) (hl : ls.length = r.looks.length) (h : startEv r ≤ rs.length) : restT p r (tickOf r rs ls) = ls := by
  apply List.ext_getElem
  · simp [restT, hl]
  · intro j h1 h2
    simp only [restT, List.getElem_map, List.getElem_range]
    rw [tickOf_ahead hr h h2, show evOf p j = rs.length + 1 + j by unfold evOf; omega, tickOf_high h2, pre_succ _ _ h2]
    simp [h2]
    omega
theorem tick_zero (r : Rdr) (rs ls : List Int) : tickOf r rs ls 0 = 0 := rfl
theorem paced_of {p : Plan} {t : Nat → Int} (R : Rests p.bounds t) : Paced p (paceT p t) := by
  refine paired_of (d := w0) (by simp [paceT]) fun i hi => ?_
  have hb : i < p.bounds.length := by rw [bounds_len]; exact hi
  have := R i hb
  obtain ⟨e1, e2⟩ := bounds_at hb
  have e3 : (paceT p t).getD i 0 = t (i + 1) - t i := by simp [paceT, hi]
  rw [e3]
  show (p.at i).low ≤ _ ∧ _ ≤ (p.at i).high
  omega
theorem rested_of {p : Plan} {r : Rdr} {t : Nat → Int} (h : ∀ i, i < r.looks.length → lookIn p r t (0 + i)) : Rested r (restT p r t) := by
  refine paired_of (d := ⟨0, 0, 0⟩) (by simp [restT]) fun i hi => ?_
  have := h i hi
  rw [Nat.zero_add] at this
  have e3 : (restT p r t).getD i 0 = t (evOf p i) - t (aheadOf p r i) := by simp [restT, hi]
  rw [e3]
  exact this
theorem of_path {p : Plan} {r : Rdr} (hr : p.rise) (hs : startEv r ≤ p.writes.length) {t : Nat → Int} {z : Str} (R : Rests p.bounds t) (P : Path t (evOf p 0) (allOpts p r) z) (h0 : t 0 = 0) : Paced p (paceT p t) ∧ Rested r (restT p r t) ∧ textOf p r (paceT p t) (restT p r t) = z := by
  rw [allOpts_eq] at P
  obtain ⟨h1, h2⟩ := (path_iff (rests_mono hr R) _ _ _).mp P
  exact ⟨paced_of R, rested_of h1, by rw [text_cat h0 hs, h2]⟩
theorem to_path {p : Plan} {r : Rdr} (hr : p.rise) (hs : startEv r ≤ p.writes.length) {rs ls : List Int} (h1 : Paced p rs) (h2 : Rested r ls) : Rests p.bounds (tickOf r rs ls) ∧ Path (tickOf r rs ls) (evOf p 0) (allOpts p r) (textOf p r rs ls) := by
  have l1 : rs.length = p.writes.length := (Paired.length h1).symm
  have l2 : ls.length = r.looks.length := (Paired.length h2).symm
  have R : Rests p.bounds (tickOf r rs ls) := fun i hi => by
    obtain ⟨e1, e2⟩ := bounds_at hi
    rw [bounds_len] at hi
    have := paired_getD (d := w0) h1 i hi
    rw [tickOf_low (by omega), tickOf_low (by omega), pre_succ _ _ (by omega)]
    have : (p.at i).low ≤ rs.getD i 0 ∧ rs.getD i 0 ≤ (p.at i).high := this
    omega
  refine ⟨R, ?_⟩
  rw [allOpts_eq]
  refine (path_iff (rests_mono hr R) _ _ _).mpr ⟨fun j hj => ?_, ?_⟩
  · rw [Nat.zero_add]
    have := paired_getD (d := ⟨0, 0, 0⟩) h2 j hj
    have e : evOf p j = rs.length + 1 + j := by unfold evOf; omega
    unfold lookIn
    rw [tickOf_ahead l1 (by omega) (by omega), e, tickOf_high (by omega), pre_succ _ _ (by omega)]
    have : (lookAt r j).low ≤ ls.getD j 0 ∧ ls.getD j 0 ≤ (lookAt r j).high := this
    omega
  · have := text_cat (p := p) (r := r) (t := tickOf r rs ls) (tick_zero r rs ls) hs
    rw [pace_back l1, rest_back l1 l2 (by omega)] at this
    exact this
/-! bounds of options -/
theorem floors_mem {e : Nat} {l : List Tri} {f : Pr} (h : f ∈ floorsOf e l) : (f.1, e, f.2) ∈ l := by
  obtain ⟨x, hx, e1⟩ := List.mem_filterMap.mp h
  split at e1
  · next h' => cases e1; rw [← h']; exact hx
  · cases e1
theorem roofs_mem {e : Nat} {l : List Tri} {f : Pr} (h : f ∈ roofsOf e l) : (e, f.1, f.2) ∈ l := by
  obtain ⟨x, hx, e1⟩ := List.mem_filterMap.mp h
  split at e1
  · next h' => cases e1; rw [← h']; exact hx
  · cases e1
theorem diffs_lt {p : Plan} {e : Nat} {c : Int} {cs : Case} (ok : CaseOk p c cs) (he : p.writes.length < e) : ∀ x ∈ caseDiffs p e c cs, (x.2.1 = e → x.1 < e) ∧ (x.1 = e → x.2.1 < e) := by
  have hle := ok.le
  unfold caseDiffs
  simp only [List.forall_mem_append]
  refine ⟨⟨⟨fun x hx => ?_, fun x hx => ?_⟩, fun x hx => ?_⟩, fun x hx => ?_⟩
  · split at hx
    · rw [List.mem_singleton] at hx; subst hx; exact ⟨fun _ => by show cs.1 < e; omega, fun h => by have : cs.1 = e := h; omega⟩
    · cases hx
  · split at hx
    · rw [List.mem_singleton] at hx; subst hx; exact ⟨fun h => by have : cs.1 + 1 = e := h; omega, fun _ => by show cs.1 + 1 < e; omega⟩
    · cases hx
  · unfold thereOf at hx
    split at hx
    · cases hx
    · next k hk =>
      have := (ok.lt k hk).1
      rw [List.mem_singleton] at hx; subst hx
      exact ⟨fun h => by have : k + 1 = e := h; omega, fun _ => by show k + 1 < e; omega⟩
  · unfold goneOf at hx
    obtain ⟨k, hk, e1⟩ := List.mem_filterMap.mp hx
    obtain ⟨i, hi, rfl⟩ := List.mem_map.mp hk
    have hi := List.mem_range.mp hi
    split at e1
    · cases e1
      exact ⟨fun _ => by show laterOf cs.2 + i + 1 < e; omega, fun h => by have : laterOf cs.2 + i + 1 = e := h; omega⟩
    · cases e1
theorem opt_ok {p : Plan} {r : Rdr} (h1 : ∀ w ∈ p.writes, w.sign.length = 1) (hn : p.writes.length ≤ 900) (hs : startEv r ≤ p.writes.length) {j : Nat} {q : Opt} (hq : q ∈ lookOpts p r j) : Bnds q.fl q.rf (evOf p j) ∧ q.sign.length = 1 ∧ q.fl.length ≤ 1000 ∧ q.rf.length ≤ 1000 := by
  obtain ⟨cs, hcs, rfl⟩ := List.mem_map.mp hq
  have ok := mem_cases.mp hcs
  have ha : aheadOf p r j < evOf p j := by unfold aheadOf evOf; split <;> omega
  have lt : ∀ x ∈ lookDiffs p r j cs, (x.2.1 = evOf p j → x.1 < evOf p j) ∧ (x.1 = evOf p j → x.2.1 < evOf p j) := by
    unfold lookDiffs
    simp only [List.forall_mem_append]
    refine ⟨fun x hx => ?_, diffs_lt ok (by unfold evOf; omega)⟩
    simp only [List.mem_cons, List.not_mem_nil, or_false] at hx
    rcases hx with rfl | rfl
    · exact ⟨fun _ => ha, fun h => by have : aheadOf p r j = evOf p j := h; omega⟩
    · exact ⟨fun h => by have : aheadOf p r j = evOf p j := h; omega, fun _ => ha⟩
  have hlen := caseDiffs_len p (evOf p j) (lookAt r j).cell cs ok.le
  have hl2 : (lookDiffs p r j cs).length ≤ 1000 := by unfold lookDiffs; simp; omega
  refine ⟨⟨?_, ?_, fun f hf => (lt _ (floors_mem hf)).1 rfl, fun f hf => (lt _ (roofs_mem hf)).2 rfl⟩, ?_, Nat.le_trans (List.length_filterMap_le _ _) hl2, Nat.le_trans (List.length_filterMap_le _ _) hl2⟩
  · have : (aheadOf p r j, -(lookAt r j).low) ∈ floorsOf (evOf p j) (lookDiffs p r j cs) := List.mem_filterMap.mpr ⟨_, by unfold lookDiffs; exact List.mem_append_left _ List.mem_cons_self, by rw [if_pos rfl]⟩
    exact fun z => by
      have this : _ ∈ (lookOpt p r j cs).fl := this
      rw [z] at this
      cases this
  · have : (aheadOf p r j, (lookAt r j).high) ∈ roofsOf (evOf p j) (lookDiffs p r j cs) := List.mem_filterMap.mpr ⟨_, by unfold lookDiffs; exact List.mem_append_left _ (List.mem_cons_of_mem _ List.mem_cons_self), by rw [if_pos rfl]⟩
    exact fun z => by
      have this : _ ∈ (lookOpt p r j cs).rf := this
      rw [z] at this
      cases this
  · show (caseSign p cs).length = 1
    unfold caseSign
    split
    · decide +kernel
    · next k hk =>
      have := (ok.lt k hk).1
      have := ok.le
      exact h1 _ (Plan.at_mem (by omega))
theorem opts_ok {p : Plan} {r : Rdr} (h1 : ∀ w ∈ p.writes, w.sign.length = 1) (hn : p.writes.length ≤ 900) (hs : startEv r ≤ p.writes.length) : ∀ (m j : Nat), OptsOk (evOf p j) (((List.range m).map fun i => j + i).map (lookOpts p r))
  | 0, _ => trivial
  | m + 1, j => by
    have e : (List.range (m + 1)).map (fun i => j + i) = j :: (List.range m).map fun i => j + 1 + i := by
      rw [List.range_succ_eq_map, List.map_cons, List.map_map]
      congr 1
      refine List.map_congr_left fun i _ => ?_
      simp only [Function.comp]
      omega
    rw [e]
    exact ⟨fun q hq => opt_ok h1 hn hs hq, by
      have := opts_ok h1 hn hs m (j + 1)
      rw [show evOf p (j + 1) = evOf p j + 1 by unfold evOf; omega] at this
      exact this⟩
theorem allOpts_ok {p : Plan} {r : Rdr} (h1 : ∀ w ∈ p.writes, w.sign.length = 1) (hn : p.writes.length ≤ 900) (hs : startEv r ≤ p.writes.length) : OptsOk (p.writes.length + 1) (allOpts p r) := by
  rw [allOpts_eq]
  exact opts_ok h1 hn hs _ 0
theorem comes_iff {p : Plan} {r : Rdr} (hr : p.rise) (h1 : ∀ w ∈ p.writes, w.sign.length = 1) (hn : p.writes.length ≤ 900) (hs : startEv r ≤ p.writes.length) (z : Str) : Reads (chainF p.bounds) (p.writes.length + 1) (allOpts p r) z ↔ Comes p r z := by
  have C := chain_closed hr.bounds
  rw [bounds_len] at C
  rw [reads_iff _ _ _ _ C (allOpts_ok h1 hn hs) (by omega)]
  have S : ∀ t, Sol (chainF p.bounds) (p.writes.length + 1) t ↔ Rests p.bounds t := fun t => by
    have := chain_sol (bs := p.bounds) t
    rw [bounds_len] at this
    exact this
  constructor
  · rintro ⟨t, ht, hp⟩
    have h2 := (S _).mp (Sol.shift (t 0) ht)
    obtain ⟨a, b, c⟩ := of_path hr hs h2 (path_shift (t 0) _ _ _ hp) (by omega)
    exact ⟨_, _, a, b, c⟩
  · rintro ⟨rs, ls, a, b, rfl⟩
    obtain ⟨c, d⟩ := to_path hr hs a b
    exact ⟨_, (S _).mpr c, d⟩

end PF
namespace PF
open PySem L2 PD
local macro_rules | `(tactic| walk_at "pd") => `(tactic| simp only [sRet, sSeq, sIf, sNext, sNever, sAsg, sDrop, sFor, forP, sAug, sApp, sExt, sOwnL, sPar, sRow, dAndV, dOrV, dNotV, dIs, dVar, dC, dChain, dBin, dUn, fNeg, dTest, dTru, dNot, dAnd, dOr, dIf, dCall, dApp, vCons, vNil, vE, vRow, vScr, dCons, dNil, dTup, dLst, dComp, dIter, dRng1, dRng2, dZip, seqD, aName, aTup_tup, aCons, aNil, fIn0, fInt, fAdd, fOrd, fEq, fNe, fIs, fIsNot, isN, fIx_tup, fIx_lst, at0, at1, at2, at3, at_4, eqOk_int, eqv_int, eqOk_bool, eqv_bool, eqOk_str, eqv_str, eqOk_non, eqv_non, eqOk_nil, eqv_nil, decide_true, decide_false,  fLen, fTuple, fList, fAll, fAny, fIntC, truD, frz, startP, wipeP, dYes, dJoin, dIxO, dLenO, dSl, dPart, dNoPart, fSl, sRng1, sOwn2, sPutK, sOwnK, dict_kd, dInO, dIterR, dListO, dInD, dGetD, dIterD, dEnum, fListD, fListS, dIterS, kd_inj, str_keyD, int_keyD, PV.rng.injEq,
  List.map_cons, List.map_nil, List.length_cons, List.length_nil, List.replicate, List.cons_append, List.nil_append, List.append_nil, List.getElem?_cons_zero, List.getElem?_cons_succ, List.set_cons_zero, List.set_cons_succ, Option.some.injEq, PV.d.injEq, PV.own.injEq, PV.scr.injEq, PyData.int.injEq, PyData.bool.injEq, PyData.list.injEq, PyData.tuple.injEq, PyData.str.injEq, List.cons.injEq, exists_eq_left', exists_eq_left, exists_eq', exists_eq_right', and_assoc, exists_and_left, Nat.zero_add, Nat.add_zero, Nat.reduceAdd, Nat.reduceSub, Nat.reduceLT, Nat.sub_self, ite_true, if_true, if_false, Bool.false_eq_true, ite_false, Bool.not_true, Bool.not_false, Bool.true_and, Bool.and_true, Bool.false_and, Bool.and_false, Bool.true_or, Bool.or_true, Bool.false_or, Bool.or_false, Bool.and_self, true_and, and_true])
local macro_rules | `(tactic| walk_at "pt") => `(tactic| try walk_at "pd")
local macro_rules | `(tactic| walk_at "pp") => `(tactic| (simp only [wr_ix0, wr_ix1, wr_ix2, wr_ix3, wr_ix4, pl_ix0, pl_ix1, pl_ix2, pl_tup, rd_ix0, rd_ix1, rd_tup, lk_ix0, lk_ix1, lk_ix2, lk_tup, cs_ix0, cs_ix1, cs_tup, tr_tup, pr_tup, op_tup] <;> walk_at "pt"))
structure Plan.fine (p : Plan) : Prop where
  inks : p.inks
  rise : p.rise
  one : ∀ w ∈ p.writes, w.sign.length = 1
  many : p.writes.length ≤ 16
theorem cases_two (p : Plan) (c : Int) : 2 * (lookCases p c).length ≤ (p.writes.length + 1) * (p.writes.length + 2) := by
  have : ∀ m : Nat, 2 * ((List.range m).flatMap (casesAt p c)).length ≤ m * (m + 1) := by
    intro m
    induction m with
    | zero => simp
    | succ m ih =>
      have := casesAt_len p c m
      rw [List.range_succ, List.flatMap_append, List.length_append, List.flatMap_cons, List.flatMap_nil, List.append_nil]
      have e : (m + 1) * (m + 1 + 1) = m * (m + 1) + 2 * (m + 1) := by rw [Nat.succ_mul, Nat.mul_succ, Nat.mul_succ]; omega
      omega
  exact this _
theorem opts_len {p : Plan} (h : p.writes.length ≤ 16) (r : Rdr) (j : Nat) : (lookOpts p r j).length ≤ 153 := by
  unfold lookOpts
  rw [List.length_map]
  have h1 := cases_two p (lookAt r j).cell
  have h2 : (p.writes.length + 1) * (p.writes.length + 2) ≤ 17 * 18 := Nat.mul_le_mul (by omega) (by omega)
  omega
theorem cnt_le (p : Plan) (h : p.writes.length ≤ 16) (r : Rdr) : ∀ js : List Nat, cnt (js.map (lookOpts p r)) ≤ 153 ^ js.length
  | [] => by simp [cnt]
  | j :: js => by
    rw [List.map_cons, cnt, List.length_cons, Nat.pow_succ, Nat.mul_comm]
    exact Nat.mul_le_mul (cnt_le p h r js) (opts_len h r j)
theorem cnt_all {p : Plan} (h : p.writes.length ≤ 16) {r : Rdr} (hl : r.looks.length ≤ 3) : cnt (allOpts p r) ≤ 16000000 := by
  refine Nat.le_trans (cnt_le p h r _) ?_
  rw [List.length_range]
  exact Nat.le_trans (Nat.pow_le_pow_right (by decide) hl) (by decide)
structure Ans (p : Plan) (r : Rdr) (ys : List Str) : Prop where
  nd : ys.Nodup
  up : PyProof.Rows.sortedS ys = true
  mem : ∀ z, z ∈ ys ↔ Comes p r z
def F_all_texts : PF := fun as P => ∃ (p : Plan) (r : Rdr), as = [.d p.d, .d r.d] ∧ p.fine ∧ (1 ≤ r.looks.length ∧ r.looks.length ≤ 3) ∧ startEv r ≤ p.writes.length ∧ ∀ ys, Ans p r ys → P (.tuple (ys.map .str))
theorem len_all_texts : ∀ as P, F_all_texts as P → as.length = 2 := by rintro _ P ⟨_, _, rfl, _⟩; rfl
theorem strK_keys (ks : List Str) : strK ks (ks.map keyS) := by
  unfold strK
  rw [List.map_map]
  rfl
def rd_all_texts : PTS :=
  (sRet (dApp fTuple (dCons (dApp fSortDS (dCons (dCall F_found_texts (vCons (vE (dCall F_chain_spans (vCons (vE (dCall F_rest_bounds (vCons (vE (dVar 0)) vNil))) vNil))) (vCons (vE (dCall F_all_options (vCons (vE (dVar 0)) (vCons (vE (dVar 1)) vNil)))) vNil))) dNil)) dNil)))

theorem holds_all_texts : ∀ as Q, F_all_texts as Q → rd_all_texts { nx := fun _ => Q .none, rt := Q } (startP ["plan", "reader"] as) := by
  rintro _ Q ⟨p, r, rfl, fn, hl, hs, q⟩
  have hm := fn.many
  unfold rd_all_texts
  walk_at "pd"
  refine ⟨p, rfl, p.bounds, rfl, by rw [bounds_len]; omega, p, r, rfl, by omega, fn.inks, by omega, ?_⟩
  rw [bounds_len]
  refine ⟨r.looks.length - 1 + 1, by omega, p.writes.length + 1, chainF p.bounds, allOpts p r, rfl, by simp [allOpts]; omega, by omega, by simp [allOpts]; omega, allOpts_ok fn.one (by omega) hs, cnt_all hm hl.2, fun ks nd mem _ => ?_⟩
  refine ⟨ks.map keyS, ks, rfl, strK_keys ks, fun ys h1 h2 => ?_⟩
  walk_at "pt"
  exact q ys ⟨h1.nodup_iff.mpr nd, h2, fun z => by rw [h1.mem_iff, mem, comes_iff fn.rise fn.one (by omega) hs]⟩
def F_timetable_for : PF := fun as P => ∃ (p : Plan) (r : Rdr) (z : Str), as = [.d p.d, .d r.d, .d (.str z)] ∧ p.fine ∧ r.looks.length ≤ 3 ∧ startEv r ≤ p.writes.length ∧ z.length = r.looks.length ∧ (¬ Comes p r z → P .none) ∧ ∀ rs ls, Paced p rs → Rested r ls → textOf p r rs ls = z → P (timeD rs ls)
theorem len_timetable_for : ∀ as P, F_timetable_for as P → as.length = 3 := by rintro _ P ⟨_, _, _, rfl, _⟩; rfl
def rd_timetable_for : PTS :=
  (sSeq (sAsg (dCall F_found_spans (vCons (vE (dCall F_chain_spans (vCons (vE (dCall F_rest_bounds (vCons (vE (dVar 0)) vNil))) vNil))) (vCons (vE (dCall F_all_options (vCons (vE (dVar 0)) (vCons (vE (dVar 1)) vNil)))) (vCons (vE (dVar 2)) vNil)))) (aName 3))
  (sRet (dIf (dTest (dBin fIs (dVar 3) (dC .none))) (dC .none) (dCall F_timetable_of (vCons (vE (dVar 0)) (vCons (vE (dVar 1)) (vCons (vE (dCall F_latest (vCons (vE (dVar 3)) vNil))) vNil)))))))

theorem holds_timetable_for : ∀ as Q, F_timetable_for as Q → rd_timetable_for { nx := fun _ => Q .none, rt := Q } (startP ["plan", "reader", "reading", "spans"] as) := by
  rintro _ Q ⟨p, r, z, rfl, fn, hl, hs, hz, q1, q2⟩
  have hm := fn.many
  unfold rd_timetable_for
  walk_at "pd"
  refine ⟨p, rfl, p.bounds, rfl, by rw [bounds_len]; omega, p, r, rfl, by omega, fn.inks, by omega, ?_⟩
  have C := chain_closed fn.rise.bounds
  rw [bounds_len] at C ⊢
  have al : (allOpts p r).length = r.looks.length := by simp [allOpts]
  refine ⟨r.looks.length + 1, by omega, p.writes.length + 1, chainF p.bounds, allOpts p r, z, rfl, al, by omega, by omega, C, allOpts_ok fn.one (by omega) hs, by rw [hz, al], fun hno => ?_, fun u hu hall => ?_⟩
  · walk_at "pd"
    refine q1 fun h => hno ?_
    exact (comes_iff fn.rise fn.one (by omega) hs z).mpr h
  · rw [al] at hu hall ⊢
    have hnn : tabD (p.writes.length + 1 + r.looks.length) u = .list ((List.range (p.writes.length + 1 + r.looks.length)).map fun x => rowD (p.writes.length + 1 + r.looks.length) (u x)) := rfl
    rw [hnn]
    walk_at "pd"
    refine ⟨p.writes.length + 1 + r.looks.length, u, rfl, by omega, p, r, _, rfl, by omega, by omega, hs, ?_⟩
    have ht := sol_last hu (z := 0) (by omega)
    obtain ⟨h1, h2⟩ := hall _ ht
    have h0 : u 0 0 = 0 := hu.diag 0 (by omega)
    have S := (chain_sol (bs := p.bounds) fun x => u x 0)
    rw [bounds_len] at S
    obtain ⟨a, b, c⟩ := of_path fn.rise hs (S.mp h1) h2 h0
    have := q2 _ _ a b c
    unfold timeD paceT restT at this
    rw [List.map_map, List.map_map] at this
    exact this

end PF
namespace PF
open PySem L2 PD
local macro_rules | `(tactic| walk_at "pd") => `(tactic| simp only [sRet, sSeq, sIf, sNext, sNever, sAsg, sDrop, sFor, forP, sAug, sApp, sExt, sOwnL, sPar, sRow, dAndV, dOrV, dNotV, dIs, dVar, dC, dChain, dBin, dUn, fNeg, dTest, dTru, dNot, dAnd, dOr, dIf, dCall, dApp, vCons, vNil, vE, vRow, vScr, dCons, dNil, dTup, dLst, dComp, dIter, dRng1, dRng2, dZip, seqD, aName, aTup_tup, aCons, aNil, fIn0, fInt, fAdd, fOrd, fEq, fNe, fIs, fIsNot, isN, fIx_tup, fIx_lst, at0, at1, at2, at3, at_4, eqOk_int, eqv_int, eqOk_bool, eqv_bool, eqOk_str, eqv_str, eqOk_non, eqv_non, eqOk_nil, eqv_nil, decide_true, decide_false,  fLen, fTuple, fList, fAll, fAny, fIntC, truD, frz, startP, wipeP, dYes, dJoin, dIxO, dLenO, dSl, dPart, dNoPart, fSl, sRng1, sOwn2, sPutK, sOwnK, dict_kd, dInO, dIterR, dListO, dInD, dGetD, dIterD, dEnum, fListD, fListS, dIterS, kd_inj, str_keyD, int_keyD, PV.rng.injEq,
  List.map_cons, List.map_nil, List.length_cons, List.length_nil, List.replicate, List.cons_append, List.nil_append, List.append_nil, List.getElem?_cons_zero, List.getElem?_cons_succ, List.set_cons_zero, List.set_cons_succ, Option.some.injEq, PV.d.injEq, PV.own.injEq, PV.scr.injEq, PyData.int.injEq, PyData.bool.injEq, PyData.list.injEq, PyData.tuple.injEq, PyData.str.injEq, List.cons.injEq, exists_eq_left', exists_eq_left, exists_eq', exists_eq_right', and_assoc, exists_and_left, Nat.zero_add, Nat.add_zero, Nat.reduceAdd, Nat.reduceSub, Nat.reduceLT, Nat.sub_self, ite_true, if_true, if_false, Bool.false_eq_true, ite_false, Bool.not_true, Bool.not_false, Bool.true_and, Bool.and_true, Bool.false_and, Bool.and_false, Bool.true_or, Bool.or_true, Bool.false_or, Bool.or_false, Bool.and_self, true_and, and_true])
local macro_rules | `(tactic| walk_at "pt") => `(tactic| try walk_at "pd")
local macro_rules | `(tactic| walk_at "pp") => `(tactic| (simp only [wr_ix0, wr_ix1, wr_ix2, wr_ix3, wr_ix4, pl_ix0, pl_ix1, pl_ix2, pl_tup, rd_ix0, rd_ix1, rd_tup, lk_ix0, lk_ix1, lk_ix2, lk_tup, cs_ix0, cs_ix1, cs_tup, tr_tup, pr_tup, op_tup] <;> walk_at "pt"))
structure RdrOk (p : Plan) (r : Rdr) : Prop where
  start : ∀ k, r.start = some k → k < p.writes.length
  many : 1 ≤ r.looks.length ∧ r.looks.length ≤ 3
  look : ∀ l ∈ r.looks, (0 ≤ l.cell ∧ l.cell < p.cells) ∧ 0 ≤ l.low ∧ l.low ≤ l.high ∧ l.high ≤ 200
theorem RdrOk.ev {p : Plan} {r : Rdr} (h : RdrOk p r) : startEv r ≤ p.writes.length := by
  unfold startEv
  cases e : r.start with
  | none => exact Nat.zero_le _
  | some k => exact h.start k e
def F_is_look : PF := fun as P => ∃ (p : Plan) (l : Lk), as = [.d p.d, .d l.d] ∧ (0 ≤ l.cell ∧ l.cell < p.cells) ∧ (0 ≤ l.low ∧ l.low ≤ l.high ∧ l.high ≤ 200) ∧ P (.bool true)
theorem len_is_look : ∀ as P, F_is_look as P → as.length = 2 := by rintro _ P ⟨_, _, rfl, _⟩; rfl
def rd_is_look : PTS :=
  (sSeq (sIf (dNot (dTru (dCall F_is_row (vCons (vE (dVar 1)) (vCons (vE (dC (.int 3))) (vCons (vE (dC (.int 3))) vNil)))))) (sRet (dC (.bool false))) sNext)
  (sSeq (sAsg (dVar 1) (aTup 3 (aCons (aName 2) (aCons (aName 3) (aCons (aName 4) aNil)))))
  (sRet (dAndV (dCall F_is_whole (vCons (vE (dVar 2)) (vCons (vE (dC (.int 0))) (vCons (vE (dBin fSub (dBin fIx (dVar 0) (dC (.int 0))) (dC (.int 1)))) vNil)))) (dCall F_is_span (vCons (vE (dVar 3)) (vCons (vE (dVar 4)) (vCons (vE (dC (.int 200))) vNil))))))))

theorem holds_is_look : ∀ as Q, F_is_look as Q → rd_is_look { nx := fun _ => Q .none, rt := Q } (startP ["plan", "value", "cell", "low", "high"] as) := by
  rintro _ Q ⟨p, l, rfl, hc, hl, q⟩
  unfold rd_is_look
  walk_at "pd"
  refine ⟨_, 3, 3, rfl, ?_⟩
  rw [show isRow l.d 3 3 = true by simp [isRow, Lk.d]]
  walk_at "pd"
  walk_at "pp"
  walk_at "pp"
  refine ⟨_, 0, _, rfl, _, rfl, ?_⟩
  rw [whole_in hc.1 (by omega)]
  walk_at "pt"
  refine ⟨_, _, 200, rfl, ?_⟩
  rw [show isSpan (.int l.low) (.int l.high) 200 = true by simp [isSpan, isWhole]; omega]
  exact q
def F_is_reader : PF := fun as P => ∃ (p : Plan) (r : Rdr), as = [.d p.d, .d r.d] ∧ RdrOk p r ∧ P (.bool true)
theorem len_is_reader : ∀ as P, F_is_reader as P → as.length = 2 := by rintro _ P ⟨_, _, rfl, _⟩; rfl
theorem all_true {α : Type} {l : List α} : (l.map fun _ => true).all id = true := by
  induction l with
  | nil => rfl
  | cons x l ih => simpa using ih
theorem bools_const {α : Type} (l : List α) : dBools (l.map fun _ => PyData.bool true) = some (l.map fun _ => true) := by
  have := bools_map (l.map fun _ => true)
  rw [List.map_map] at this
  exact this
def rd_is_reader : PTS :=
  (sSeq (sIf (dNot (dTru (dCall F_is_row (vCons (vE (dVar 1)) (vCons (vE (dC (.int 2))) (vCons (vE (dC (.int 2))) vNil)))))) (sRet (dC (.bool false))) sNext)
  (sSeq (sAsg (dVar 1) (aTup 2 (aCons (aName 2) (aCons (aName 3) aNil))))
  (sSeq (sIf (dAnd (dTest (dBin fIsNot (dVar 2) (dC .none))) (dNot (dTru (dCall F_is_whole (vCons (vE (dVar 2)) (vCons (vE (dC (.int 0))) (vCons (vE (dBin fSub (dApp fLen (dCons (dBin fIx (dVar 0) (dC (.int 2))) dNil)) (dC (.int 1)))) vNil))))))) (sRet (dC (.bool false))) sNext)
  (sRet (dAndV (dCall F_is_row (vCons (vE (dVar 3)) (vCons (vE (dC (.int 1))) (vCons (vE (dC (.int 3))) vNil)))) (dApp fAll (dCons (dComp (dIter (dVar 3)) (aName 4) dYes (dCall F_is_look (vCons (vE (dVar 0)) (vCons (vE (dVar 4)) vNil))) [4]) dNil)))))))

theorem holds_is_reader : ∀ as Q, F_is_reader as Q → rd_is_reader { nx := fun _ => Q .none, rt := Q } (startP ["plan", "value", "start", "looks", "look"] as) := by
  rintro _ Q ⟨p, r, rfl, h, q⟩
  have tail : ∀ (d : Dt) (x4 : PV), (sRet (dAndV (dCall F_is_row (vCons (vE (dVar 3)) (vCons (vE (dC (.int 1))) (vCons (vE (dC (.int 3))) vNil)))) (dApp fAll (dCons (dComp (dIter (dVar 3)) (aName 4) dYes (dCall F_is_look (vCons (vE (dVar 0)) (vCons (vE (dVar 4)) vNil))) [4]) dNil)))) { nx := fun _ => Q .none, rt := Q } [.d p.d, .d r.d, .d d, .d (.tuple (r.looks.map Lk.d)), x4] := fun d x4 => by
    have hm := h.many
    walk_at "pd"
    refine ⟨_, 1, 3, rfl, _, rfl, ?_⟩
    rw [show isRow (.tuple (r.looks.map Lk.d)) 1 3 = true by simp [isRow]; omega]
    walk_at "pt"
    intro _
    refine lcP_enc Lk.d (fun _ => .bool true) _ _ (fun l hl P' p' => ?_) ⟨_, bools_const _, by rw [all_true]; exact q⟩
    walk_at "pd"
    obtain ⟨h1, h2⟩ := h.look l hl
    exact ⟨p, l, rfl, h1, h2, p'⟩
  unfold rd_is_reader
  generalize (sRet _ : PTS) = T at tail ⊢
  walk_at "pd"
  refine ⟨_, 2, 2, rfl, ?_⟩
  rw [show isRow r.d 2 2 = true by simp [isRow, Rdr.d]]
  walk_at "pd"
  walk_at "pp"
  cases e : r.start with
  | none =>
    simp only [numD]
    walk_at "pt"
    exact tail _ _
  | some k =>
    simp only [numD]
    walk_at "pt"
    walk_at "pp"
    rw [List.length_map]
    refine ⟨_, 0, _, rfl, ?_⟩
    have := h.start k e
    rw [whole_in (by omega) (by omega)]
    walk_at "pd"
    exact tail _ _
def F_check_reader : PF := fun as P => ∃ (p : Plan) (r : Rdr), as = [.d p.d, .d r.d] ∧ p.ok ∧ RdrOk p r ∧ P .none
theorem len_check_reader : ∀ as P, F_check_reader as P → as.length = 2 := by rintro _ P ⟨_, _, rfl, _⟩; rfl
def rd_check_reader : PTS :=
  (sSeq (sDrop (dCall F_check_plan (vCons (vE (dVar 0)) vNil)))
  (sIf (dNot (dTru (dCall F_is_reader (vCons (vE (dVar 0)) (vCons (vE (dVar 1)) vNil))))) sNever sNext))

theorem holds_check_reader : ∀ as Q, F_check_reader as Q → rd_check_reader { nx := fun _ => Q .none, rt := Q } (startP ["plan", "reader"] as) := by
  rintro _ Q ⟨p, r, rfl, o, h, q⟩
  unfold rd_check_reader
  walk_at "pd"
  refine ⟨_, rfl, o.sm, o.d, p, r, rfl, h, ?_⟩
  walk_at "pd"
  exact q
def F_is_timetable : PF := fun as P => ∃ (p : Plan) (r : Rdr) (rs ls : List Int), as = [.d p.d, .d r.d, .d (timeD rs ls)] ∧ Paced p rs ∧ Rested r ls ∧ P (.bool true)
theorem len_is_timetable : ∀ as P, F_is_timetable as P → as.length = 3 := by rintro _ P ⟨_, _, _, _, rfl, _⟩; rfl
theorem rests_ok2 : ∀ {ks : List Lk} {ls : List Int}, Paired (fun (l : Lk) x => l.low ≤ x ∧ x ≤ l.high) ks ls → restsOk (ls.map .int) (ks.map fun l => (l.low, l.high)) = true
  | _, _, .nil => rfl
  | _, _, .cons h t => by simp [restsOk, whole_in h.1 h.2, rests_ok2 t]
def rd_is_timetable : PTS :=
  (sSeq (sIf (dNot (dTru (dCall F_is_row (vCons (vE (dVar 2)) (vCons (vE (dC (.int 2))) (vCons (vE (dC (.int 2))) vNil)))))) (sRet (dC (.bool false))) sNext)
  (sSeq (sAsg (dVar 2) (aTup 2 (aCons (aName 3) (aCons (aName 4) aNil))))
  (sRet (dAndV (dCall F_is_pace (vCons (vE (dVar 0)) (vCons (vE (dVar 3)) vNil))) (dCall F_are_rests (vCons (vE (dVar 4)) (vCons (vE (dComp (dIter (dBin fIx (dVar 1) (dC (.int 1)))) (aName 5) dYes (dTup (dCons (dBin fIx (dVar 5) (dC (.int 1))) (dCons (dBin fIx (dVar 5) (dC (.int 2))) dNil))) [5])) vNil)))))))

theorem holds_is_timetable : ∀ as Q, F_is_timetable as Q → rd_is_timetable { nx := fun _ => Q .none, rt := Q } (startP ["plan", "reader", "value", "pace", "rests", "look"] as) := by
  rintro _ Q ⟨p, r, rs, ls, rfl, h1, h2, q⟩
  unfold rd_is_timetable
  walk_at "pd"
  refine ⟨_, 2, 2, rfl, ?_⟩
  rw [show isRow (timeD rs ls) 2 2 = true by simp [isRow, timeD]]
  unfold timeD
  walk_at "pd"
  refine ⟨p, _, rfl, _, rfl, ?_⟩
  have e := pace_ok h1
  unfold pacesD at e
  rw [e]
  walk_at "pt"
  walk_at "pp"
  intro _
  refine lcP_enc Lk.d (fun l => .tuple [.int l.low, .int l.high]) _ _ (fun l hl P' p' => ?_) ?_
  · walk_at "pd"
    walk_at "pp"
    exact ⟨by decide, p'⟩
  · refine ⟨.tuple (ls.map .int), r.looks.map fun l => (l.low, l.high), ?_, ?_⟩
    · rw [show boundsD (r.looks.map fun l => (l.low, l.high)) = .list (r.looks.map fun l => .tuple [.int l.low, .int l.high]) by unfold boundsD; rw [List.map_map]; rfl]
    · have := Paired.length h2
      rw [show areRests (.tuple (ls.map .int)) (r.looks.map fun l => (l.low, l.high)) = true by simp [areRests, rests_ok2 h2, this]]
      exact q
def F_is_sign : PF := fun as P => ∃ z : Str, as = [.d (.str z)] ∧ z.length ≤ 1000 ∧ P (.bool (decide (z = ".") || isLetter (.str z)))
theorem len_is_sign : ∀ as P, F_is_sign as P → as.length = 1 := by rintro _ P ⟨_, rfl, _⟩; rfl
def rd_is_sign : PTS :=
  (sRet (dOrV (dBin fEq (dVar 0) (dC (.str "."))) (dCall F_is_letter (vCons (vE (dVar 0)) vNil))))

theorem holds_is_sign : ∀ as Q, F_is_sign as Q → rd_is_sign { nx := fun _ => Q .none, rt := Q } (startP ["value"] as) := by
  rintro _ Q ⟨z, rfl, hz, q⟩
  unfold rd_is_sign
  walk_at "pd"
  by_cases h : z = "."
  · rw [decide_eq_true h] at q ⊢
    walk_at "pt"
    rw [Bool.true_or] at q
    exact q
  · rw [decide_eq_false h] at q ⊢
    walk_at "pt"
    rw [Bool.false_or] at q
    exact ⟨_, rfl, by simp [smD, hz], q⟩
def SignOk (z : Str) : Prop := z = "." ∨ isLetter (.str z) = true
def TextOk (z : Str) : Prop := ∀ c ∈ z.cps.toList, SignOk ⟨#[c]⟩
def F_is_reading : PF := fun as P => ∃ (z : Str) (a b : Int), as = [.d (.str z), .d (.int a), .d (.int b)] ∧ z.length ≤ 1000 ∧ (a ≤ z.length ∧ (z.length : Int) ≤ b) ∧ TextOk z ∧ P (.bool true)
theorem len_is_reading : ∀ as P, F_is_reading as P → as.length = 3 := by rintro _ P ⟨_, _, _, rfl, _⟩; rfl
theorem one_len (c : Nat) : (⟨#[c]⟩ : Str).length = 1 := rfl
def rd_is_reading : PTS :=
  (sSeq (sIf (dOr (dNot (dTru (dIs isStrD (dVar 0)))) (dNot (dTest (dChain fLe fLe (dVar 1) (dApp fLen (dCons (dVar 0) dNil)) (dVar 2))))) (sRet (dC (.bool false))) sNext)
  (sRet (dApp fAll (dCons (dComp (dIterS (dVar 0)) (aName 3) dYes (dCall F_is_sign (vCons (vE (dVar 3)) vNil)) [3]) dNil))))

theorem holds_is_reading : ∀ as Q, F_is_reading as Q → rd_is_reading { nx := fun _ => Q .none, rt := Q } (startP ["value", "least", "most", "sign"] as) := by
  rintro _ Q ⟨z, a, b, rfl, hz, hab, ht, q⟩
  unfold rd_is_reading
  walk_at "pd"
  simp only [isStrD]
  walk_at "pd"
  refine ⟨by rw [line_eq]; omega, ?_⟩
  rw [decide_eq_true hab.1]
  walk_at "pd"
  rw [decide_eq_true hab.2]
  walk_at "pd"
  refine ⟨by have : z.length = z.cps.size := rfl
             rw [line_eq]; omega, fun _ => ?_⟩
  unfold signs
  refine lcP_enc (fun c : Nat => .str ⟨#[c]⟩) (fun _ => .bool true) _ _ (fun c hc P' p' => ?_) ⟨_, bools_const _, by rw [all_true]; exact q⟩
  walk_at "pd"
  refine ⟨_, rfl, by rw [one_len]; decide, ?_⟩
  rcases ht c hc with h | h
  · rw [decide_eq_true h, Bool.true_or]; exact p'
  · rw [h, Bool.or_true]; exact p'
theorem ok_one {p : Plan} (o : p.ok) : ∀ w ∈ p.writes, w.sign.length = 1 := o.one
def F_read : PF := fun as P => ∃ (p : Plan) (r : Rdr) (rs ls : List Int), as = [.d p.d, .d r.d, .d (timeD rs ls)] ∧ p.ok ∧ RdrOk p r ∧ Paced p rs ∧ Rested r ls ∧ P (.str (textOf p r rs ls))
theorem len_read : ∀ as P, F_read as P → as.length = 3 := by rintro _ P ⟨_, _, _, _, rfl, _⟩; rfl
def rd_read : PTS :=
  (sSeq (sDrop (dCall F_check_reader (vCons (vE (dVar 0)) (vCons (vE (dVar 1)) vNil))))
  (sSeq (sIf (dNot (dTru (dCall F_is_timetable (vCons (vE (dVar 0)) (vCons (vE (dVar 1)) (vCons (vE (dVar 2)) vNil)))))) sNever sNext)
  (sRet (dCall F_text_at (vCons (vE (dVar 0)) (vCons (vE (dVar 1)) (vCons (vE (dVar 2)) vNil)))))))

theorem holds_read : ∀ as Q, F_read as Q → rd_read { nx := fun _ => Q .none, rt := Q } (startP ["plan", "reader", "timetable"] as) := by
  rintro _ Q ⟨p, r, rs, ls, rfl, o, h, h1, h2, q⟩
  have l1 := Paired.length h1
  have l2 := Paired.length h2
  have hm := o.many
  have hk := h.many
  have he := h.ev
  unfold rd_read
  walk_at "pd"
  refine ⟨p, r, rfl, o, h, p, r, rs, ls, rfl, h1, h2, ?_⟩
  walk_at "pd"
  exact ⟨p, r, rs, ls, rfl, o.inks, o.one, by omega, by omega, by omega, by omega, q⟩
def F_readings : PF := fun as P => ∃ (p : Plan) (r : Rdr), as = [.d p.d, .d r.d] ∧ p.ok ∧ p.rise ∧ RdrOk p r ∧ ∀ ys, Ans p r ys → P (.tuple (ys.map .str))
theorem len_readings : ∀ as P, F_readings as P → as.length = 2 := by rintro _ P ⟨_, _, rfl, _⟩; rfl
theorem Plan.ok.fine {p : Plan} (o : p.ok) (h : p.rise) : p.fine := ⟨o.inks, h, o.one, by have := o.many; omega⟩
def rd_readings : PTS :=
  (sSeq (sDrop (dCall F_check_reader (vCons (vE (dVar 0)) (vCons (vE (dVar 1)) vNil))))
  (sRet (dCall F_all_texts (vCons (vE (dVar 0)) (vCons (vE (dVar 1)) vNil)))))

theorem holds_readings : ∀ as Q, F_readings as Q → rd_readings { nx := fun _ => Q .none, rt := Q } (startP ["plan", "reader"] as) := by
  rintro _ Q ⟨p, r, rfl, o, hr, h, q⟩
  unfold rd_readings
  walk_at "pd"
  exact ⟨p, r, rfl, o, h, p, r, rfl, o.fine hr, h.many, h.ev, q⟩
def F_can_read : PF := fun as P => ∃ (p : Plan) (r : Rdr) (z : Str), as = [.d p.d, .d r.d, .d (.str z)] ∧ p.ok ∧ p.rise ∧ RdrOk p r ∧ z.length = r.looks.length ∧ TextOk z ∧ (¬ Comes p r z → P .none) ∧ ∀ rs ls, Paced p rs → Rested r ls → textOf p r rs ls = z → P (timeD rs ls)
theorem len_can_read : ∀ as P, F_can_read as P → as.length = 3 := by rintro _ P ⟨_, _, _, rfl, _⟩; rfl
def rd_can_read : PTS :=
  (sSeq (sDrop (dCall F_check_reader (vCons (vE (dVar 0)) (vCons (vE (dVar 1)) vNil))))
  (sSeq (sAsg (dApp fLen (dCons (dBin fIx (dVar 1) (dC (.int 1))) dNil)) (aName 3))
  (sSeq (sIf (dNot (dTru (dCall F_is_reading (vCons (vE (dVar 2)) (vCons (vE (dVar 3)) (vCons (vE (dVar 3)) vNil)))))) sNever sNext)
  (sRet (dCall F_timetable_for (vCons (vE (dVar 0)) (vCons (vE (dVar 1)) (vCons (vE (dVar 2)) vNil))))))))

theorem holds_can_read : ∀ as Q, F_can_read as Q → rd_can_read { nx := fun _ => Q .none, rt := Q } (startP ["plan", "reader", "reading", "looks"] as) := by
  rintro _ Q ⟨p, r, z, rfl, o, hr, h, hz, ht, q1, q2⟩
  have hk := h.many
  unfold rd_can_read
  walk_at "pd"
  refine ⟨p, r, rfl, o, h, ?_⟩
  walk_at "pp"
  rw [List.length_map]
  refine ⟨z, _, _, rfl, by omega, by omega, ht, ?_⟩
  walk_at "pd"
  exact ⟨p, r, z, rfl, o.fine hr, by omega, h.ev, hz, q1, q2⟩

end PF
namespace PF
open PySem L2 PD
local macro_rules | `(tactic| walk_at "pd") => `(tactic| simp only [sRet, sSeq, sIf, sNext, sNever, sAsg, sDrop, sFor, forP, sAug, sApp, sExt, sOwnL, sPar, sRow, dAndV, dOrV, dNotV, dIs, dVar, dC, dChain, dBin, dUn, fNeg, dTest, dTru, dNot, dAnd, dOr, dIf, dCall, dApp, vCons, vNil, vE, vRow, vScr, dCons, dNil, dTup, dLst, dComp, dIter, dRng1, dRng2, dZip, seqD, aName, aTup_tup, aCons, aNil, fIn0, fInt, fAdd, fOrd, fEq, fNe, fIs, fIsNot, isN, fIx_tup, fIx_lst, at0, at1, at2, at3, at_4, eqOk_int, eqv_int, eqOk_bool, eqv_bool, eqOk_str, eqv_str, eqOk_non, eqv_non, eqOk_nil, eqv_nil, decide_true, decide_false,  fLen, fTuple, fList, fAll, fAny, fIntC, truD, frz, startP, wipeP, dYes, dJoin, dIxO, dLenO, dSl, dPart, dNoPart, fSl, sRng1, sOwn2, sPutK, sOwnK, dict_kd, dInO, dIterR, dListO, dInD, dGetD, dIterD, dEnum, fListD, fListS, dIterS, kd_inj, str_keyD, int_keyD, PV.rng.injEq,
  List.map_cons, List.map_nil, List.length_cons, List.length_nil, List.replicate, List.cons_append, List.nil_append, List.append_nil, List.getElem?_cons_zero, List.getElem?_cons_succ, List.set_cons_zero, List.set_cons_succ, Option.some.injEq, PV.d.injEq, PV.own.injEq, PV.scr.injEq, PyData.int.injEq, PyData.bool.injEq, PyData.list.injEq, PyData.tuple.injEq, PyData.str.injEq, List.cons.injEq, exists_eq_left', exists_eq_left, exists_eq', exists_eq_right', and_assoc, exists_and_left, Nat.zero_add, Nat.add_zero, Nat.reduceAdd, Nat.reduceSub, Nat.reduceLT, Nat.sub_self, ite_true, if_true, if_false, Bool.false_eq_true, ite_false, Bool.not_true, Bool.not_false, Bool.true_and, Bool.and_true, Bool.false_and, Bool.and_false, Bool.true_or, Bool.or_true, Bool.false_or, Bool.or_false, Bool.and_self, true_and, and_true])
local macro_rules | `(tactic| walk_at "pt") => `(tactic| try walk_at "pd")
local macro_rules | `(tactic| walk_at "pp") => `(tactic| (simp only [wr_ix0, wr_ix1, wr_ix2, wr_ix3, wr_ix4, pl_ix0, pl_ix1, pl_ix2, pl_tup, rd_ix0, rd_ix1, rd_tup, lk_ix0, lk_ix1, lk_ix2, lk_tup, cs_ix0, cs_ix1, cs_tup, tr_tup, pr_tup, op_tup] <;> walk_at "pt"))
/-! ### sorted lists of the same texts are one -/
theorem lt_anti : ∀ a b : List Nat, PySem.Spec.ltCps a b = false → PySem.Spec.ltCps b a = false → a = b
  | [], [], _, _ => rfl
  | [], _ :: _, h, _ => by simp [PySem.Spec.ltCps] at h
  | _ :: _, [], _, h => by simp [PySem.Spec.ltCps] at h
  | a :: r, b :: t, h, k => by
    simp only [PySem.Spec.ltCps, Bool.or_eq_false_iff, decide_eq_false_iff_not, Bool.and_eq_false_iff, beq_eq_false_iff_ne] at h k
    have e : a = b := by omega
    subst e
    have h2 := h.2.resolve_left (by simp)
    have k2 := k.2.resolve_left (by simp)
    rw [lt_anti r t h2 k2]
theorem lt_trans' : ∀ a b c : List Nat, PySem.Spec.ltCps b a = false → PySem.Spec.ltCps c b = false → PySem.Spec.ltCps c a = false
  | [], [], [], _, _ => rfl
  | [], [], _ :: _, _, _ => rfl
  | [], _ :: _, [], _, h => by simp [PySem.Spec.ltCps] at h
  | [], _ :: _, _ :: _, _, _ => rfl
  | _ :: _, [], _, h, _ => by simp [PySem.Spec.ltCps] at h
  | _ :: _, _ :: _, [], _, h => by simp [PySem.Spec.ltCps] at h
  | a :: r, b :: t, c :: u, h, k => by
    simp only [PySem.Spec.ltCps, Bool.or_eq_false_iff, decide_eq_false_iff_not, Bool.and_eq_false_iff, beq_eq_false_iff_ne] at h k ⊢
    refine ⟨by omega, ?_⟩
    by_cases e : c = a
    · have e1 : b = a := by omega
      subst e1
      subst e
      exact .inr (lt_trans' r t u (h.2.resolve_left (by simp)) (k.2.resolve_left (by simp)))
    · exact .inl e
def leS (a b : Str) : Prop := PySem.Spec.ltCps b.cps.toList a.cps.toList = false
theorem leS_anti {a b : Str} (h : leS a b) (k : leS b a) : a = b := str_list (lt_anti _ _ k h)
theorem leS_trans {a b c : Str} (h : leS a b) (k : leS b c) : leS a c := lt_trans' _ _ _ h k
theorem rising_le : ∀ (l : List Str) (p : Str), PyProof.Rows.risingS p l = true → (∀ x ∈ l, leS p x) ∧ l.Pairwise leS
  | [], _, _ => ⟨by simp, .nil⟩
  | x :: r, p, h => by
    simp only [PyProof.Rows.risingS, Bool.and_eq_true, Bool.not_eq_true'] at h
    obtain ⟨h1, h2⟩ := rising_le r x h.2
    have px : leS p x := h.1
    refine ⟨fun y hy => ?_, .cons h1 h2⟩
    rcases List.mem_cons.mp hy with rfl | hy
    · exact px
    · exact leS_trans px (h1 y hy)
theorem sorted_pair : ∀ {l : List Str}, PyProof.Rows.sortedS l = true → l.Pairwise leS
  | [], _ => .nil
  | x :: r, h => by
    obtain ⟨h1, h2⟩ := rising_le r x h
    exact .cons h1 h2
theorem pair_same : ∀ {l m : List Str}, l.Pairwise leS → m.Pairwise leS → l.Nodup → m.Nodup → (∀ z, z ∈ l ↔ z ∈ m) → l = m
  | [], [], _, _, _, _, _ => rfl
  | [], y :: m, _, _, _, _, h => by have := (h y).mpr (by simp); cases this
  | x :: l, [], _, _, _, _, h => by have := (h x).mp (by simp); cases this
  | x :: l, y :: m, hl, hm, nl, nm, h => by
    cases hl with
    | cons h1 h2 =>
      cases hm with
      | cons k1 k2 =>
        rw [List.nodup_cons] at nl nm
        have e : x = y := by
          rcases List.mem_cons.mp ((h x).mp (by simp)) with e | hx
          · exact e
          · rcases List.mem_cons.mp ((h y).mpr (by simp)) with e | hy
            · exact e.symm
            · exact leS_anti (h1 y hy) (k1 x hx)
        subst e
        rw [pair_same h2 k2 nl.2 nm.2 fun z => by
          constructor
          · intro hz
            rcases List.mem_cons.mp ((h z).mp (List.mem_cons_of_mem _ hz)) with e | hz'
            · subst e; exact absurd hz nl.1
            · exact hz'
          · intro hz
            rcases List.mem_cons.mp ((h z).mpr (List.mem_cons_of_mem _ hz)) with e | hz'
            · subst e; exact absurd hz nm.1
            · exact hz']
theorem sorted_same {l m : List Str} (hl : PyProof.Rows.sortedS l = true) (hm : PyProof.Rows.sortedS m = true) (nl : l.Nodup) (nm : m.Nodup) (h : ∀ z, z ∈ l ↔ z ∈ m) : l = m := pair_same (sorted_pair hl) (sorted_pair hm) nl nm h
/-! ### the law's readers -/
structure RdrDrawn (p : Plan) (m w : Int) (r : Rdr) : Prop where
  start : ∀ k, r.start = some k → k < p.writes.length
  many : 1 ≤ r.looks.length ∧ (r.looks.length : Int) ≤ m
  look : ∀ l ∈ r.looks, (0 ≤ l.cell ∧ l.cell < p.cells) ∧ (0 ≤ l.low ∧ l.low ≤ 4) ∧ l.low ≤ l.high ∧ l.high ≤ l.low + w
theorem RdrDrawn.ok {p : Plan} {m w : Int} {r : Rdr} (h : RdrDrawn p m w r) (hm : m ≤ 3) (hw : w ≤ 40) : RdrOk p r := ⟨h.start, by have := h.many; omega, fun l hl => by
  obtain ⟨h1, h2, h3⟩ := h.look l hl
  exact ⟨h1, by omega, by omega, by omega⟩⟩
def F__law_reader : PF := fun as P => ∃ (p : Plan) (m w : Int), as = [.row, .d p.d, .d (.int m), .d (.int w)] ∧ p.writes.length ≤ 100 ∧ (1 ≤ p.cells ∧ p.cells ≤ 100) ∧ (1 ≤ m ∧ m ≤ 3) ∧ (0 ≤ w ∧ w ≤ 40) ∧ ∀ r, RdrDrawn p m w r → P r.d
theorem len__law_reader : ∀ as P, F__law_reader as P → as.length = 4 := by rintro _ P ⟨_, _, _, rfl, _⟩; rfl
def rdTurn : PTS := (sSeq (sAsg (dCall F__law_taken (vCons (vRow 0) (vCons (vE (dC (.int 5))) vNil))) (aName 7))
  (sApp 5 (dTup (dCons (dCall F__law_taken (vCons (vRow 0) (vCons (vE (dBin fIx (dVar 1) (dC (.int 0)))) vNil))) (dCons (dVar 7) (dCons (dBin fAdd (dVar 7) (dCall F__law_taken (vCons (vRow 0) (vCons (vE (dBin fAdd (dVar 3) (dC (.int 1)))) vNil)))) dNil))))))
structure LkOk (p : Plan) (w : Int) (l : Lk) : Prop where
  cell : 0 ≤ l.cell ∧ l.cell < p.cells
  low : 0 ≤ l.low ∧ l.low ≤ 4
  high : l.low ≤ l.high ∧ l.high ≤ l.low + w
theorem go_reader (Q : PEnds) (t : PTS) (p : Plan) (w : Int) (hc : 1 ≤ p.cells ∧ p.cells ≤ 100) (hw : 0 ≤ w ∧ w ≤ 40) (x2 x4 : PV) : ∀ (xs : List Dt) (acc : List Lk) (x6 x7 : PV), acc.length + xs.length ≤ 1000 → (∀ l ∈ acc, LkOk p w l) →
    (∀ (ls : List Lk) x6 x7, ls.length = acc.length + xs.length → (∀ l ∈ ls, LkOk p w l) → t Q [.row, .d p.d, x2, .d (.int w), x4, .own (.list (ls.map Lk.d)), x6, x7]) →
    forP (aName 6) rdTurn { Q with nx := t Q } xs [.row, .d p.d, x2, .d (.int w), x4, .own (.list (acc.map Lk.d)), x6, x7]
  | [], acc, x6, x7, _, h, q => q acc x6 x7 rfl h
  | x :: xs, acc, x6, x7, hl, h, q => by
    simp only [List.length_cons] at hl q
    have ih := fun l x6 x7 => go_reader Q t p w hc hw x2 x4 xs (acc ++ [l]) x6 x7
    unfold rdTurn at ih ⊢
    walk_at "pd"
    refine ⟨5, rfl, by decide, by decide, fun lo h1 h2 => ?_⟩
    walk_at "pp"
    refine ⟨p.cells, rfl, by omega, by omega, fun c h3 h4 => ?_⟩
    refine ⟨w + 1, rfl, by omega, by omega, fun hi h5 h6 => ?_⟩
    walk_at "pd"
    refine ⟨by decide, by rw [List.length_map, line_eq]; omega, ?_⟩
    rw [show acc.map Lk.d ++ [PyData.tuple [.int c, .int lo, .int (lo + hi)]] = (acc ++ [(⟨c, lo, lo + hi⟩ : Lk)]).map Lk.d by simp [Lk.d]]
    refine ih _ _ _ (by simp; omega) (fun l hl => ?_) fun ls y6 y7 e hls => q ls y6 y7 (by simp at e; omega) hls
    rcases List.mem_append.mp hl with hl | hl
    · exact h l hl
    · rw [List.mem_singleton] at hl
      subst hl
      exact ⟨⟨h3, h4⟩, ⟨h1, by show lo ≤ 4; omega⟩, by show lo ≤ lo + hi ∧ lo + hi ≤ lo + w; omega⟩
def rd__law_reader : PTS :=
  (sSeq (sAsg (dBin fSub (dCall F__law_taken (vCons (vRow 0) (vCons (vE (dBin fAdd (dApp fLen (dCons (dBin fIx (dVar 1) (dC (.int 2))) dNil)) (dC (.int 1)))) vNil))) (dC (.int 1))) (aName 4))
  (sSeq (sOwnL 5 dNil)
  (sSeq (sFor (dRng1 (dCons (dBin fAdd (dC (.int 1)) (dCall F__law_taken (vCons (vRow 0) (vCons (vE (dVar 2)) vNil)))) dNil)) (aName 6) (sSeq (sAsg (dCall F__law_taken (vCons (vRow 0) (vCons (vE (dC (.int 5))) vNil))) (aName 7))
  (sApp 5 (dTup (dCons (dCall F__law_taken (vCons (vRow 0) (vCons (vE (dBin fIx (dVar 1) (dC (.int 0)))) vNil))) (dCons (dVar 7) (dCons (dBin fAdd (dVar 7) (dCall F__law_taken (vCons (vRow 0) (vCons (vE (dBin fAdd (dVar 3) (dC (.int 1)))) vNil)))) dNil)))))))
  (sRet (dTup (dCons (dIf (dTest (dBin fGe (dVar 4) (dC (.int 0)))) (dVar 4) (dC .none)) (dCons (dApp fTuple (dCons (dVar 5) dNil)) dNil)))))))

theorem holds__law_reader : ∀ as Q, F__law_reader as Q → rd__law_reader { nx := fun _ => Q .none, rt := Q } (startP ["row", "plan", "most", "wide", "start", "looks", "turn", "low"] as) := by
  rintro _ Q ⟨p, m, w, rfl, hn, hc, hm, hw, q⟩
  have key := fun (s : Int) (hs : -1 ≤ s ∧ s < p.writes.length) (xs : List Dt) (hx : 1 ≤ xs.length ∧ (xs.length : Int) ≤ m) x6 x7 => go_reader { nx := fun _ => Q .none, rt := Q } (sRet (dTup (dCons (dIf (dTest (dBin fGe (dVar 4) (dC (.int 0)))) (dVar 4) (dC .none)) (dCons (dApp fTuple (dCons (dVar 5) dNil)) dNil)))) p w hc hw (.d (.int m)) (.d (.int s)) xs [] x6 x7 (by simp; omega) (by simp) fun ls y6 y7 e hls => by
    simp only [List.length_nil, Nat.zero_add] at e
    walk_at "pd"
    refine ite_b (fun h => ?_) fun h => ?_
    · have h := of_decide_eq_true h
      refine ⟨by decide, ?_⟩
      have := q ⟨some s.toNat, ls⟩ ⟨(fun k hk => by cases hk; omega), by show 1 ≤ ls.length ∧ (ls.length : Int) ≤ m; omega, fun l hl => ⟨(hls l hl).cell, (hls l hl).low, (hls l hl).high⟩⟩
      simp only [Rdr.d, numD] at this
      rw [show ((s.toNat : Nat) : Int) = s by omega] at this
      exact this
    · exact ⟨by decide, q ⟨none, ls⟩ ⟨(fun k hk => by cases hk), by show 1 ≤ ls.length ∧ (ls.length : Int) ≤ m; omega, fun l hl => ⟨(hls l hl).cell, (hls l hl).low, (hls l hl).high⟩⟩⟩
  show sSeq _ (sSeq _ (sSeq (sFor _ _ rdTurn) _)) _ _
  generalize rdTurn = T at key ⊢
  walk_at "pd"
  walk_at "pp"
  rw [List.length_map]
  refine ⟨(p.writes.length : Int) + 1, rfl, by omega, by omega, fun s h1 h2 => ?_⟩
  walk_at "pd"
  refine ⟨by decide, m, rfl, by omega, by omega, fun k h3 h4 => ?_⟩
  walk_at "pd"
  refine ⟨by omega, by omega, fun _ => ?_⟩
  exact key (s - 1) (by omega) _ (by rw [rangeD_length]; omega) _ _

end PF
namespace PF
open PySem L2 PD
local macro_rules | `(tactic| walk_at "pd") => `(tactic| simp only [sRet, sSeq, sIf, sNext, sNever, sAsg, sDrop, sFor, forP, sAug, sApp, sExt, sOwnL, sPar, sRow, dAndV, dOrV, dNotV, dIs, dVar, dC, dChain, dBin, dUn, fNeg, dTest, dTru, dNot, dAnd, dOr, dIf, dCall, dApp, vCons, vNil, vE, vRow, vScr, dCons, dNil, dTup, dLst, dComp, dIter, dRng1, dRng2, dZip, seqD, aName, aTup_tup, aCons, aNil, fIn0, fInt, fAdd, fOrd, fEq, fNe, fIs, fIsNot, isN, fIx_tup, fIx_lst, at0, at1, at2, at3, at_4, eqOk_int, eqv_int, eqOk_bool, eqv_bool, eqOk_str, eqv_str, eqOk_non, eqv_non, eqOk_nil, eqv_nil, decide_true, decide_false,  fLen, fTuple, fList, fAll, fAny, fIntC, truD, frz, startP, wipeP, dYes, dJoin, dIxO, dLenO, dSl, dPart, dNoPart, fSl, sRng1, sOwn2, sPutK, sOwnK, dict_kd, dInO, dIterR, dListO, dInD, dGetD, dIterD, dEnum, fListD, fListS, dIterS, kd_inj, str_keyD, int_keyD, PV.rng.injEq,
  List.map_cons, List.map_nil, List.length_cons, List.length_nil, List.replicate, List.cons_append, List.nil_append, List.append_nil, List.getElem?_cons_zero, List.getElem?_cons_succ, List.set_cons_zero, List.set_cons_succ, Option.some.injEq, PV.d.injEq, PV.own.injEq, PV.scr.injEq, PyData.int.injEq, PyData.bool.injEq, PyData.list.injEq, PyData.tuple.injEq, PyData.str.injEq, List.cons.injEq, exists_eq_left', exists_eq_left, exists_eq', exists_eq_right', and_assoc, exists_and_left, Nat.zero_add, Nat.add_zero, Nat.reduceAdd, Nat.reduceSub, Nat.reduceLT, Nat.sub_self, ite_true, if_true, if_false, Bool.false_eq_true, ite_false, Bool.not_true, Bool.not_false, Bool.true_and, Bool.and_true, Bool.false_and, Bool.and_false, Bool.true_or, Bool.or_true, Bool.false_or, Bool.or_false, Bool.and_self, true_and, and_true])
local macro_rules | `(tactic| walk_at "pt") => `(tactic| try walk_at "pd")
local macro_rules | `(tactic| walk_at "pp") => `(tactic| (simp only [wr_ix0, wr_ix1, wr_ix2, wr_ix3, wr_ix4, pl_ix0, pl_ix1, pl_ix2, pl_tup, rd_ix0, rd_ix1, rd_tup, lk_ix0, lk_ix1, lk_ix2, lk_tup, cs_ix0, cs_ix1, cs_tup, tr_tup, pr_tup, op_tup] <;> walk_at "pt"))
/-! ### all tuples within bounds -/
def InB (bs : List (Int × Int)) (x : List Int) : Prop := Paired (fun (b : Int × Int) v => b.1 ≤ v ∧ v ≤ b.2) bs x
def width (b : Int × Int) : Nat := (b.2 + 1 - b.1).toNat
def prodW : List (Int × Int) → Nat
  | [] => 1
  | b :: bs => width b * prodW bs
def tupI (x : List Int) : Dt := .tuple (x.map .int)
def stepA (b : Int × Int) (L : List (List Int)) : List (List Int) := L.flatMap fun one => (List.range (width b)).map fun (i : Nat) => one ++ [b.1 + (i : Int)]
def allA : List (Int × Int) → List (List Int) → List (List Int)
  | [], L => L
  | b :: bs, L => allA bs (stepA b L)
theorem stepA_mem {b : Int × Int} {L : List (List Int)} {x : List Int} : x ∈ stepA b L ↔ ∃ a ∈ L, ∃ v, (b.1 ≤ v ∧ v ≤ b.2) ∧ x = a ++ [v] := by
  unfold stepA
  rw [List.mem_flatMap]
  constructor
  · rintro ⟨a, ha, h⟩
    obtain ⟨i, hi, rfl⟩ := List.mem_map.mp h
    have hi := List.mem_range.mp hi
    unfold width at hi
    exact ⟨a, ha, _, by omega, rfl⟩
  · rintro ⟨a, ha, v, hv, rfl⟩
    refine ⟨a, ha, List.mem_map.mpr ⟨(v - b.1).toNat, List.mem_range.mpr (by unfold width; omega), ?_⟩⟩
    rw [show b.1 + (((v - b.1).toNat : Nat) : Int) = v by omega]
theorem allA_mem : ∀ (bs : List (Int × Int)) (L : List (List Int)) (x : List Int), x ∈ allA bs L ↔ ∃ a ∈ L, ∃ y, InB bs y ∧ x = a ++ y
  | [], L, x => by
    constructor
    · intro h; exact ⟨x, h, [], .nil, by simp⟩
    · rintro ⟨a, ha, y, hy, rfl⟩
      cases hy
      rw [List.append_nil, allA]
      exact ha
  | b :: bs, L, x => by
    rw [allA, allA_mem bs]
    constructor
    · rintro ⟨a, ha, y, hy, rfl⟩
      obtain ⟨c, hc, v, hv, rfl⟩ := stepA_mem.mp ha
      exact ⟨c, hc, v :: y, .cons hv hy, by simp⟩
    · rintro ⟨a, ha, y, hy, rfl⟩
      cases hy with
      | cons hv ht =>
        rename_i v ys
        exact ⟨a ++ [v], stepA_mem.mpr ⟨a, ha, v, hv, rfl⟩, ys, ht, by simp⟩
theorem stepA_len (b : Int × Int) : ∀ L : List (List Int), (stepA b L).length = L.length * width b
  | [] => by simp [stepA]
  | x :: L => by
    have ih := stepA_len b L
    unfold stepA at ih ⊢
    rw [List.flatMap_cons, List.length_append, ih, List.length_map, List.length_range, List.length_cons, Nat.succ_mul]
    omega
theorem allA_len : ∀ (bs : List (Int × Int)) (L : List (List Int)), (allA bs L).length = L.length * prodW bs
  | [], L => by simp [allA, prodW]
  | b :: bs, L => by rw [allA, allA_len bs, stepA_len, prodW, Nat.mul_assoc]
def F__law_all : PF := fun as P => ∃ bs : List (Int × Int), as = [.d (boundsD bs)] ∧ bs.length ≤ 100 ∧ (∀ b ∈ bs, 0 ≤ b.1 ∧ b.1 ≤ b.2 ∧ b.2 ≤ 10000) ∧ prodW bs ≤ 1000000 ∧ P (.list ((allA bs [[]]).map tupI))
theorem len__law_all : ∀ as P, F__law_all as P → as.length = 1 := by rintro _ P ⟨_, rfl, _⟩; rfl
def laIn : PTS := (sAsg (dBin fAdd (dVar 4) (dComp (dRng2 (dCons (dVar 2) (dCons (dBin fAdd (dVar 3) (dC (.int 1))) dNil))) (aName 6) dYes (dBin fAdd (dVar 5) (dTup (dCons (dVar 6) dNil))) [6])) (aName 4))
theorem go_all2 (Q : PEnds) (b : Int × Int) (hb : 0 ≤ b.1 ∧ b.1 ≤ b.2 ∧ b.2 ≤ 10000) (d0 d1 : Dt) : ∀ (L acc : List (List Int)) (x5 x6 : PV), acc.length + L.length * width b ≤ 1000000 → (∀ x ∈ L, x.length ≤ 1000) →
    (∀ x5 x6, Q.nx [.d d0, .d d1, .d (.int b.1), .d (.int b.2), .d (.list ((acc ++ stepA b L).map tupI)), x5, x6]) →
    forP (aName 5) laIn Q (L.map tupI) [.d d0, .d d1, .d (.int b.1), .d (.int b.2), .d (.list (acc.map tupI)), x5, x6]
  | [], acc, x5, x6, _, _, q => by simpa [stepA, forP] using q x5 x6
  | x :: L, acc, x5, x6, hl, hx, q => by
    rw [List.length_cons, Nat.succ_mul] at hl
    have hw : width b ≤ 10001 := by unfold width; omega
    have h1 := hx x (by simp)
    have ih := fun acc x5 x6 => go_all2 Q b hb d0 d1 L acc x5 x6
    unfold laIn at ih ⊢
    walk_at "pd"
    refine ⟨by omega, by omega, by omega, by omega, fun _ => ?_⟩
    have er : rangeD b.1 (b.2 + 1 - b.1).toNat = (List.range (width b)).map fun i => .int (b.1 + (i : Nat)) := rfl
    rw [er]
    refine lcP_enc (fun i : Nat => .int (b.1 + (i : Nat))) (fun i => tupI (x ++ [b.1 + (i : Nat)])) _ _ (fun i hi P' p' => ?_) ?_
    · unfold tupI
      walk_at "pd"
      refine ⟨by decide, by rw [List.length_map, line_eq]; omega, ?_⟩
      unfold tupI at p'
      rw [List.map_append] at p'
      exact p'
    · walk_at "pt"
      refine ⟨by simp only [List.length_map, List.length_range]; rw [line_eq]; omega, ?_⟩
      have e : acc.map tupI ++ (List.range (width b)).map (fun i => tupI (x ++ [b.1 + ((i : Nat) : Int)])) = (acc ++ (List.range (width b)).map fun (i : Nat) => x ++ [b.1 + (i : Int)]).map tupI := by simp
      rw [e]
      refine ih _ _ _ (by simp only [List.length_append, List.length_map, List.length_range]; omega) (fun y hy => hx y (by simp [hy])) fun y5 y6 => ?_
      have := q y5 y6
      simpa [stepA] using this
theorem prodW_pos : ∀ {bs : List (Int × Int)}, (∀ b ∈ bs, b.1 ≤ b.2) → 1 ≤ prodW bs
  | [], _ => by simp [prodW]
  | b :: bs, h => by
    have h1 := prodW_pos (bs := bs) fun c hc => h c (by simp [hc])
    have h2 := h b (by simp)
    have h3 : 1 ≤ width b := by unfold width; omega
    exact Nat.mul_le_mul h3 h1
def laOut : PTS := (sSeq (sAsg (dLst dNil) (aName 4)) (sSeq (sFor (dIter (dVar 1)) (aName 5) laIn) (sAsg (dVar 4) (aName 1))))
theorem go_all1 (Q : PEnds) (t : PTS) (d0 : Dt) : ∀ (bs : List (Int × Int)) (L : List (List Int)) (k : Nat) (x2 x3 x4 x5 x6 : PV), (∀ b ∈ bs, 0 ≤ b.1 ∧ b.1 ≤ b.2 ∧ b.2 ≤ 10000) → L.length * prodW bs ≤ 1000000 → (∀ x ∈ L, x.length ≤ k) → k + bs.length ≤ 1000 →
    (∀ x2 x3 x4 x5 x6, t Q [.d d0, .d (.list ((allA bs L).map tupI)), x2, x3, x4, x5, x6]) →
    forP (aTup 2 (aCons (aName 2) (aCons (aName 3) aNil))) laOut { Q with nx := t Q } (bs.map fun b => .tuple [.int b.1, .int b.2]) [.d d0, .d (.list (L.map tupI)), x2, x3, x4, x5, x6]
  | [], L, k, x2, x3, x4, x5, x6, _, _, _, _, q => q _ _ _ _ _
  | b :: bs, L, k, x2, x3, x4, x5, x6, hb, hp, hx, hk, q => by
    have h1 := hb b (by simp)
    have pp := prodW_pos (bs := bs) fun c hc => (hb c (by simp [hc])).2.1
    rw [prodW, ← Nat.mul_assoc] at hp
    rw [List.length_cons] at hk
    have hl : L.length * width b ≤ 1000000 := by
      have : L.length * width b * 1 ≤ L.length * width b * prodW bs := Nat.mul_le_mul (Nat.le_refl _) pp
      omega
    have ih := go_all1 Q t d0 bs (stepA b L) (k + 1)
    have mid := fun Q' x5 x6 q' => go_all2 Q' b h1 d0 (.list (L.map tupI)) L [] x5 x6 (by simpa using hl) (fun x hxx => by have := hx x hxx; omega) q'
    unfold laOut at ih ⊢
    generalize laIn = T at ih mid ⊢
    walk_at "pd"
    refine ⟨by decide, fun _ => ?_⟩
    refine mid _ _ _ fun y5 y6 => ?_
    walk_at "pd"
    refine ih _ _ _ _ _ (fun c hc => hb c (by simp [hc])) (by rw [stepA_len]; exact hp) (fun x hxx => ?_) (by omega) q
    obtain ⟨a, ha, v, _, rfl⟩ := stepA_mem.mp hxx
    have := hx a ha
    simp
    omega
def rd__law_all : PTS :=
  (sSeq (sAsg (dLst (dCons (dTup dNil) dNil)) (aName 1))
  (sSeq (sFor (dIter (dVar 0)) (aTup 2 (aCons (aName 2) (aCons (aName 3) aNil))) (sSeq (sAsg (dLst dNil) (aName 4))
  (sSeq (sFor (dIter (dVar 1)) (aName 5) (sAsg (dBin fAdd (dVar 4) (dComp (dRng2 (dCons (dVar 2) (dCons (dBin fAdd (dVar 3) (dC (.int 1))) dNil))) (aName 6) dYes (dBin fAdd (dVar 5) (dTup (dCons (dVar 6) dNil))) [6])) (aName 4)))
  (sAsg (dVar 4) (aName 1)))))
  (sRet (dVar 1))))

theorem holds__law_all : ∀ as Q, F__law_all as Q → rd__law_all { nx := fun _ => Q .none, rt := Q } (startP ["bounds", "found", "low", "high", "longer", "one", "number"] as) := by
  rintro _ Q ⟨bs, rfl, hl, hb, hp, q⟩
  have key := fun x2 x3 x4 x5 x6 => go_all1 { nx := fun _ => Q .none, rt := Q } (sRet (dVar 1)) (boundsD bs) bs [[]] 0 x2 x3 x4 x5 x6 hb (by simpa using hp) (by simp) (by omega) fun y2 y3 y4 y5 y6 => by
    walk_at "pd"
    exact q
  show sSeq _ (sSeq (sFor _ _ laOut) _) _ _
  unfold boundsD at key ⊢
  generalize laOut = T at key ⊢
  walk_at "pd"
  refine ⟨by decide, by decide, fun _ => ?_⟩
  exact key _ _ _ _ _
def F__law_paces : PF := fun as P => ∃ p : Plan, as = [.d p.d] ∧ p.writes.length ≤ 100 ∧ (∀ b ∈ p.bounds, 0 ≤ b.1 ∧ b.1 ≤ b.2 ∧ b.2 ≤ 10000) ∧ prodW p.bounds ≤ 1000000 ∧ P (.list ((allA p.bounds [[]]).map tupI))
theorem len__law_paces : ∀ as P, F__law_paces as P → as.length = 1 := by rintro _ P ⟨_, rfl, _⟩; rfl
def rd__law_paces : PTS :=
  (sRet (dCall F__law_all (vCons (vE (dComp (dIter (dBin fIx (dVar 0) (dC (.int 2)))) (aName 1) dYes (dTup (dCons (dBin fIx (dVar 1) (dC (.int 3))) (dCons (dBin fIx (dVar 1) (dC (.int 4))) dNil))) [1])) vNil)))

theorem holds__law_paces : ∀ as Q, F__law_paces as Q → rd__law_paces { nx := fun _ => Q .none, rt := Q } (startP ["plan", "write"] as) := by
  rintro _ Q ⟨p, rfl, hn, hb, hp, q⟩
  unfold rd__law_paces
  walk_at "pd"
  walk_at "pp"
  intro _
  refine lcP_enc Wr.d (fun w => .tuple [.int w.low, .int w.high]) _ _ (fun w hw P' p' => ?_) ?_
  · walk_at "pd"
    walk_at "pp"
    exact ⟨by decide, p'⟩
  · refine ⟨p.bounds, ?_, by rw [bounds_len]; exact hn, hb, hp, q⟩
    unfold boundsD Plan.bounds
    rw [List.map_map]
    rfl
/-! ### the law's reading -/
def F__law_read : PF := fun as P => ∃ (p : Plan) (r : Rdr) (rs ls : List Int), as = [.d p.d, .d r.d, .d (tupI rs), .d (tupI ls)] ∧ p.inks ∧ (∀ w ∈ p.writes, w.sign.length = 1) ∧ rs.length ≤ 1000 ∧ ls.length ≤ 1000 ∧ r.looks.length ≤ 1000 ∧ startEv r ≤ rs.length ∧ P (.str (textOf p r rs ls))
theorem len__law_read : ∀ as P, F__law_read as P → as.length = 4 := by rintro _ P ⟨_, _, _, _, rfl, _⟩; rfl
def rd__law_read : PTS :=
  (sSeq (sAsg (dCall F__law_ticks (vCons (vE (dVar 2)) (vCons (vE (dC (.int 0))) vNil))) (aName 4))
  (sSeq (sAsg (dCall F__law_ticks (vCons (vE (dVar 3)) (vCons (vE (dIf (dTest (dBin fIs (dBin fIx (dVar 1) (dC (.int 0))) (dC .none))) (dC (.int 0)) (dBin fIx (dVar 4) (dBin fIx (dVar 1) (dC (.int 0)))))) vNil))) (aName 5))
  (sRet (dJoin (dC (.str "")) (dComp (dZip (dCons (dBin fIx (dVar 1) (dC (.int 1))) (dCons (dVar 5) dNil))) (aTup 2 (aCons (aName 6) (aCons (aName 7) aNil))) dYes (dCall F__law_seen (vCons (vE (dVar 0)) (vCons (vE (dVar 4)) (vCons (vE (dBin fIx (dVar 6) (dC (.int 0)))) (vCons (vE (dVar 7)) vNil))))) [6, 7])))))

theorem holds__law_read : ∀ as Q, F__law_read as Q → rd__law_read { nx := fun _ => Q .none, rt := Q } (startP ["plan", "reader", "pace", "rests", "told", "looks", "look", "tick"] as) := by
  rintro _ Q ⟨p, r, rs, ls, rfl, hi, h1, hr, hl, hk, hs, q⟩
  have em : momentsOf r rs ls = sums (startTick r (sums 0 rs)) ls := rfl
  unfold textOf at q
  rw [em] at q
  unfold rd__law_read tupI
  walk_at "pd"
  refine ⟨rs, 0, _, rfl, .inl rfl, hr, ?_⟩
  walk_at "pp"
  cases e : r.start with
  | none =>
    rw [show startTick r (sums 0 rs) = 0 by simp [startTick, e]] at q
    simp only [numD]
    walk_at "pt"
    refine ⟨ls, 0, _, rfl, .inl rfl, hl, ?_⟩
    walk_at "pd"
    intro _
    rw [zip_enc]
    refine lcP_enc (fun w : Lk × Int => .tuple [w.1.d, .int w.2]) (fun w => .str (seenAt p (sums 0 rs) w.1.cell w.2)) _ _ (fun w hw P' p' => ?_) ?_
    · walk_at "pd"
      walk_at "pp"
      exact ⟨p, _, _, _, rfl, hi, p'⟩
    · exact ⟨_, .inl rfl, _, strs_at _ _, join_ok (fun c _ => seenAt_one h1 _ _ _) (zip_len _ _ hk), q⟩
  | some k =>
    have hk' : k < rs.length := by have : startEv r = k + 1 := by simp [startEv, e]
                                   omega
    rw [show startTick r (sums 0 rs) = (sums 0 rs).getD k 0 by simp [startTick, e]] at q
    simp only [numD]
    walk_at "pt"
    refine ⟨.int ((sums 0 rs).getD k 0), ?_, ?_⟩
    · have := @getD_at (sums 0 rs) (k : Int) (by omega) (by rw [sums_length]; omega)
      rw [show ((k : Nat) : Int).toNat = k by omega] at this
      exact this
    refine ⟨ls, (sums 0 rs).getD k 0, _, rfl, .inl rfl, hl, ?_⟩
    walk_at "pd"
    intro _
    rw [zip_enc]
    refine lcP_enc (fun w : Lk × Int => .tuple [w.1.d, .int w.2]) (fun w => .str (seenAt p (sums 0 rs) w.1.cell w.2)) _ _ (fun w hw P' p' => ?_) ?_
    · walk_at "pd"
      walk_at "pp"
      exact ⟨p, _, _, _, rfl, hi, p'⟩
    · exact ⟨_, .inl rfl, _, strs_at _ _, join_ok (fun c _ => seenAt_one h1 _ _ _) (zip_len _ _ hk), q⟩

end PF
namespace PF
open PySem L2 PD
local macro_rules | `(tactic| walk_at "pd") => `(tactic| simp only [sRet, sSeq, sIf, sNext, sNever, sAsg, sDrop, sFor, forP, sAug, sApp, sExt, sOwnL, sPar, sRow, dAndV, dOrV, dNotV, dIs, dVar, dC, dChain, dBin, dUn, fNeg, dTest, dTru, dNot, dAnd, dOr, dIf, dCall, dApp, vCons, vNil, vE, vRow, vScr, dCons, dNil, dTup, dLst, dComp, dIter, dRng1, dRng2, dZip, seqD, aName, aTup_tup, aCons, aNil, fIn0, fInt, fAdd, fOrd, fEq, fNe, fIs, fIsNot, isN, fIx_tup, fIx_lst, at0, at1, at2, at3, at_4, eqOk_int, eqv_int, eqOk_bool, eqv_bool, eqOk_str, eqv_str, eqOk_non, eqv_non, eqOk_nil, eqv_nil, decide_true, decide_false,  fLen, fTuple, fList, fAll, fAny, fIntC, truD, frz, startP, wipeP, dYes, dJoin, dIxO, dLenO, dSl, dPart, dNoPart, fSl, sRng1, sOwn2, sPutK, sOwnK, dict_kd, dInO, dIterR, dListO, dInD, dGetD, dIterD, dEnum, fListD, fListS, dIterS, kd_inj, str_keyD, int_keyD, PV.rng.injEq,
  List.map_cons, List.map_nil, List.length_cons, List.length_nil, List.replicate, List.cons_append, List.nil_append, List.append_nil, List.getElem?_cons_zero, List.getElem?_cons_succ, List.set_cons_zero, List.set_cons_succ, Option.some.injEq, PV.d.injEq, PV.own.injEq, PV.scr.injEq, PyData.int.injEq, PyData.bool.injEq, PyData.list.injEq, PyData.tuple.injEq, PyData.str.injEq, List.cons.injEq, exists_eq_left', exists_eq_left, exists_eq', exists_eq_right', and_assoc, exists_and_left, Nat.zero_add, Nat.add_zero, Nat.reduceAdd, Nat.reduceSub, Nat.reduceLT, Nat.sub_self, ite_true, if_true, if_false, Bool.false_eq_true, ite_false, Bool.not_true, Bool.not_false, Bool.true_and, Bool.and_true, Bool.false_and, Bool.and_false, Bool.true_or, Bool.or_true, Bool.false_or, Bool.or_false, Bool.and_self, true_and, and_true])
local macro_rules | `(tactic| walk_at "pt") => `(tactic| try walk_at "pd")
local macro_rules | `(tactic| walk_at "pp") => `(tactic| (simp only [wr_ix0, wr_ix1, wr_ix2, wr_ix3, wr_ix4, pl_ix0, pl_ix1, pl_ix2, pl_tup, rd_ix0, rd_ix1, rd_tup, lk_ix0, lk_ix1, lk_ix2, lk_tup, cs_ix0, cs_ix1, cs_tup, tr_tup, pr_tup, op_tup] <;> walk_at "pt"))
local macro_rules | `(tactic| walk_at "pq") => `(tactic| try walk_at "pp")
abbrev Ent := Str × (List Int × List Int)
def entD (e : Ent) : Key × Dt := (Sum.inr e.1, timeD e.2.1 e.2.2)
def knownD (l : List Ent) : Dt := kd (l.map entD)
structure KnownOk (p : Plan) (r : Rdr) (l : List Ent) : Prop where
  nd : (l.map (·.1)).Nodup
  mem : ∀ z, z ∈ l.map (·.1) ↔ Comes p r z
  val : ∀ e ∈ l, Paced p e.2.1 ∧ Rested r e.2.2 ∧ textOf p r e.2.1 e.2.2 = e.1
  few : l.length ≤ prodW (p.bounds) * prodW (r.looks.map fun k => (k.low, k.high))
def putE (l : List Ent) (z : Str) (v : List Int × List Int) : List Ent := if z ∈ l.map (·.1) then l.map (fun e => if e.1 = z then (e.1, v) else e) else l ++ [(z, v)]
theorem has_ent (z : Str) : ∀ l : List Ent, hasA (l.map entD) (Sum.inr z) = decide (z ∈ l.map (·.1))
  | [] => by simp [hasA]
  | e :: l => by
    have ih := has_ent z l
    unfold hasA at ih ⊢
    rw [List.map_cons, List.any_cons, ih, List.map_cons]
    by_cases h : e.1 = z
    · simp [entD, h]
    · have h' : ¬ z = e.1 := fun q => h q.symm
      simp [entD, h, h']
theorem put_ent (z : Str) (v : List Int × List Int) (l : List Ent) : putA (l.map entD) (Sum.inr z) (timeD v.1 v.2) = (putE l z v).map entD := by
  unfold putA putE
  rw [has_ent]
  by_cases h : z ∈ l.map (·.1)
  · rw [decide_eq_true h, if_pos rfl, if_pos h, List.map_map, List.map_map]
    refine List.map_congr_left fun e _ => ?_
    by_cases q : e.1 = z
    · simp [Function.comp, entD, q]
    · simp [Function.comp, entD, q]
  · rw [decide_eq_false h, if_neg (by simp), if_neg h]
    simp [entD]
theorem putE_keys (l : List Ent) (z : Str) (v : List Int × List Int) : (putE l z v).map (·.1) = add1 (l.map (·.1)) z := by
  unfold putE add1
  by_cases h : z ∈ l.map (·.1)
  · rw [if_pos h, if_pos h, List.map_map]
    refine List.map_congr_left fun e _ => ?_
    simp only [Function.comp]
    by_cases q : e.1 = z
    · rw [if_pos q]
    · rw [if_neg q]
  · rw [if_neg h, if_neg h]
    simp
theorem putE_val {Pv : Ent → Prop} {l : List Ent} {z : Str} {v : List Int × List Int} (h : ∀ e ∈ l, Pv e) (hv : Pv (z, v)) : ∀ e ∈ putE l z v, Pv e := by
  unfold putE
  split
  · intro e he
    obtain ⟨e0, h0, rfl⟩ := List.mem_map.mp he
    by_cases q : e0.1 = z
    · rw [if_pos q, q]; exact hv
    · rw [if_neg q]; exact h e0 h0
  · intro e he
    rcases List.mem_append.mp he with he | he
    · exact h e he
    · rw [List.mem_singleton] at he
      subst he
      exact hv
theorem putE_len (l : List Ent) (z : Str) (v : List Int × List Int) : (putE l z v).length ≤ l.length + 1 := by
  unfold putE
  split <;> simp
theorem addAll_append : ∀ (a : List Str) (ks b : List Str), addAll ks (a ++ b) = addAll (addAll ks a) b
  | [], _, _ => rfl
  | z :: a, ks, b => by
    rw [List.cons_append, addAll, addAll_append a]
    rfl
def EntOk (p : Plan) (r : Rdr) (e : Ent) : Prop := Paced p e.2.1 ∧ Rested r e.2.2 ∧ textOf p r e.2.1 e.2.2 = e.1
theorem tupI_time (rs ls : List Int) : PyData.tuple [tupI rs, tupI ls] = timeD rs ls := rfl
def lrIn : PTS := (sPutK 2 (dCall F__law_read (vCons (vE (dVar 0)) (vCons (vE (dVar 1)) (vCons (vE (dVar 4)) (vCons (vE (dVar 5)) vNil))))) (dTup (dCons (dVar 4) (dCons (dVar 5) dNil))))
structure RdOk (p : Plan) (r : Rdr) : Prop where
  inks : p.inks
  one : ∀ w ∈ p.writes, w.sign.length = 1
  many : p.writes.length ≤ 100
  looks : r.looks.length ≤ 100
  ev : startEv r ≤ p.writes.length
theorem go_rd2 (Q : PEnds) (p : Plan) (r : Rdr) (o : RdOk p r) (x : List Int) (hx : Paced p x) (d3 : Dt) : ∀ (ys : List (List Int)) (l : List Ent) (x5 x6 : PV), (∀ y ∈ ys, Rested r y) → l.length + ys.length ≤ 1000000 → (∀ e ∈ l, EntOk p r e) →
    (∀ (l' : List Ent) x5 x6, l'.map (·.1) = addAll (l.map (·.1)) (ys.map fun y => textOf p r x y) → (∀ e ∈ l', EntOk p r e) → l'.length ≤ l.length + ys.length → Q.nx [.d p.d, .d r.d, .own (knownD l'), .d d3, .d (tupI x), x5, x6]) →
    forP (aName 5) lrIn Q (ys.map tupI) [.d p.d, .d r.d, .own (knownD l), .d d3, .d (tupI x), x5, x6]
  | [], l, x5, x6, _, _, hv, q => q l x5 x6 rfl hv (by simp)
  | y :: ys, l, x5, x6, hy, hl, hv, q => by
    have h1 := hy y (by simp)
    have lx := Paired.length hx
    have ly := Paired.length h1
    have om := o.many
    have ol := o.looks
    have oe := o.ev
    rw [List.length_cons] at hl q
    have ih := fun x5 x6 => go_rd2 Q p r o x hx d3 ys (putE l (textOf p r x y) (x, y)) x5 x6 (fun w hw => hy w (by simp [hw])) (by have := putE_len l (textOf p r x y) (x, y); omega) (putE_val hv ⟨hx, h1, rfl⟩) fun l' y5 y6 e hv' hl' => q l' y5 y6 (by rw [e, putE_keys]; rfl) hv' (by have := putE_len l (textOf p r x y) (x, y); omega)
    unfold lrIn knownD at ih ⊢
    walk_at "pd"
    refine ⟨by decide, p, r, x, y, rfl, o.inks, o.one, by omega, by omega, by omega, by omega, ?_⟩
    walk_at "pd"
    refine ⟨by rw [List.length_map, line_eq]; omega, ?_⟩
    rw [tupI_time, put_ent _ (x, y)]
    exact ih _ _
theorem go_rd1 (Q : PEnds) (t : PTS) (p : Plan) (r : Rdr) (o : RdOk p r) (ys : List (List Int)) (hy : ∀ y ∈ ys, Rested r y) (hz : ys.length ≤ 1000000) : ∀ (xs : List (List Int)) (l : List Ent) (x4 x5 x6 : PV), (∀ x ∈ xs, Paced p x) → l.length + xs.length * ys.length ≤ 1000000 → (∀ e ∈ l, EntOk p r e) →
    (∀ (l' : List Ent) x4 x5 x6, l'.map (·.1) = addAll (l.map (·.1)) (xs.flatMap fun x => ys.map fun y => textOf p r x y) → (∀ e ∈ l', EntOk p r e) → t Q [.d p.d, .d r.d, .own (knownD l'), .d (.list (ys.map tupI)), x4, x5, x6]) →
    forP (aName 4) (sFor (dIter (dVar 3)) (aName 5) lrIn) { Q with nx := t Q } (xs.map tupI) [.d p.d, .d r.d, .own (knownD l), .d (.list (ys.map tupI)), x4, x5, x6]
  | [], l, x4, x5, x6, _, _, hv, q => q l x4 x5 x6 rfl hv
  | x :: xs, l, x4, x5, x6, hx, hl, hv, q => by
    rw [List.length_cons, Nat.succ_mul] at hl
    have h1 := hx x (by simp)
    have mid := fun Q' x5 x6 q' => go_rd2 Q' p r o x h1 (.list (ys.map tupI)) ys l x5 x6 hy (by omega) hv q'
    have ih := fun l' x4 x5 x6 h1 h2 q' => go_rd1 Q t p r o ys hy hz xs l' x4 x5 x6 (fun w hw => hx w (by simp [hw])) h1 h2 q'
    generalize lrIn = T at mid ih ⊢
    walk_at "pd"
    intro _
    refine mid _ _ _ fun l' y5 y6 e hv' hl' => ?_
    refine ih l' _ _ _ (by omega) hv' fun l2 z4 z5 z6 e2 hv2 => q l2 z4 z5 z6 ?_ hv2
    rw [e2, e, List.flatMap_cons, addAll_append]
def Rdr.bounds (r : Rdr) : List (Int × Int) := r.looks.map fun l => (l.low, l.high)
theorem paced_in {p : Plan} {x : List Int} : InB p.bounds x ↔ Paced p x := by
  unfold InB Paced Plan.bounds
  generalize p.writes = ws
  induction ws generalizing x with
  | nil => constructor <;> (intro h; cases h; exact .nil)
  | cons w ws ih =>
    constructor
    · intro h
      cases h with
      | cons a b => exact .cons a (ih.mp b)
    · intro h
      cases h with
      | cons a b => exact .cons a (ih.mpr b)
theorem rested_in {r : Rdr} {x : List Int} : InB r.bounds x ↔ Rested r x := by
  unfold InB Rested Rdr.bounds
  generalize r.looks = ws
  induction ws generalizing x with
  | nil => constructor <;> (intro h; cases h; exact .nil)
  | cons w ws ih =>
    constructor
    · intro h
      cases h with
      | cons a b => exact .cons a (ih.mp b)
    · intro h
      cases h with
      | cons a b => exact .cons a (ih.mpr b)
theorem all_in {bs : List (Int × Int)} {x : List Int} : x ∈ allA bs [[]] ↔ InB bs x := by
  rw [allA_mem]
  constructor
  · rintro ⟨a, ha, y, hy, rfl⟩
    rw [List.mem_singleton] at ha
    subst ha
    exact hy
  · intro h
    exact ⟨[], by simp, x, h, rfl⟩
def BsOk (bs : List (Int × Int)) : Prop := ∀ b ∈ bs, 0 ≤ b.1 ∧ b.1 ≤ b.2 ∧ b.2 ≤ 10000
def F__law_readings : PF := fun as P => ∃ (p : Plan) (r : Rdr), as = [.d p.d, .d r.d] ∧ RdOk p r ∧ BsOk p.bounds ∧ BsOk r.bounds ∧ prodW p.bounds * prodW r.bounds ≤ 1000000 ∧ ∀ l, KnownOk p r l → P (knownD l)
theorem len__law_readings : ∀ as P, F__law_readings as P → as.length = 2 := by rintro _ P ⟨_, _, rfl, _⟩; rfl
def rd__law_readings : PTS :=
  (sSeq (sOwnK 2)
  (sSeq (sAsg (dCall F__law_all (vCons (vE (dComp (dIter (dBin fIx (dVar 1) (dC (.int 1)))) (aName 6) dYes (dTup (dCons (dBin fIx (dVar 6) (dC (.int 1))) (dCons (dBin fIx (dVar 6) (dC (.int 2))) dNil))) [6])) vNil)) (aName 3))
  (sSeq (sFor (dIter (dCall F__law_paces (vCons (vE (dVar 0)) vNil))) (aName 4) (sFor (dIter (dVar 3)) (aName 5) (sPutK 2 (dCall F__law_read (vCons (vE (dVar 0)) (vCons (vE (dVar 1)) (vCons (vE (dVar 4)) (vCons (vE (dVar 5)) vNil))))) (dTup (dCons (dVar 4) (dCons (dVar 5) dNil))))))
  (sRet (dVar 2)))))

theorem holds__law_readings : ∀ as Q, F__law_readings as Q → rd__law_readings { nx := fun _ => Q .none, rt := Q } (startP ["plan", "reader", "found", "rests", "pace", "rest", "look"] as) := by
  rintro _ Q ⟨p, r, rfl, o, b1, b2, hp, q⟩
  have w1 := prodW_pos fun b hb => (b1 b hb).2.1
  have w2 := prodW_pos fun b hb => (b2 b hb).2.1
  have h1 : prodW p.bounds ≤ 1000000 := by
    have : prodW p.bounds * 1 ≤ prodW p.bounds * prodW r.bounds := Nat.mul_le_mul (Nat.le_refl _) w2
    omega
  have h2 : prodW r.bounds ≤ 1000000 := by
    have : 1 * prodW r.bounds ≤ prodW p.bounds * prodW r.bounds := Nat.mul_le_mul w1 (Nat.le_refl _)
    omega
  have l1 : (allA p.bounds [[]]).length = prodW p.bounds := by rw [allA_len]; simp
  have l2 : (allA r.bounds [[]]).length = prodW r.bounds := by rw [allA_len]; simp
  have key := fun x4 x5 x6 => go_rd1 { nx := fun _ => Q .none, rt := Q } (sRet (dVar 2)) p r o (allA r.bounds [[]]) (fun y hy => rested_in.mp (all_in.mp hy)) (by omega) (allA p.bounds [[]]) [] x4 x5 x6 (fun y hy => paced_in.mp (all_in.mp hy)) (by rw [l1, l2]; simpa using hp) (by simp) fun l y4 y5 y6 e hv => by
    walk_at "pd"
    refine q l ⟨by rw [e]; exact addAll_nodup _ .nil, fun z => ?_, hv, ?_⟩
    rotate_left
    · have h1 := congrArg List.length e
      rw [List.length_map] at h1
      rw [h1]
      refine Nat.le_trans (addAll_len _ _) ?_
      rw [List.map_nil, List.length_nil, Nat.zero_add]
      have h2 : ∀ xs : List (List Int), (xs.flatMap fun x => (allA r.bounds [[]]).map fun y => textOf p r x y).length = xs.length * prodW r.bounds := fun xs => by
        induction xs with
        | nil => simp
        | cons x xs ih => rw [List.flatMap_cons, List.length_append, ih, List.length_map, l2, List.length_cons, Nat.succ_mul]; omega
      rw [h2, l1]
      exact Nat.le_refl _
    rw [e, addAll_mem]
    simp only [List.map_nil, List.not_mem_nil, false_or, List.mem_flatMap, List.mem_map]
    constructor
    · rintro ⟨x, hx, y, hy, rfl⟩
      exact ⟨x, y, paced_in.mp (all_in.mp hx), rested_in.mp (all_in.mp hy), rfl⟩
    · rintro ⟨x, y, hx, hy, rfl⟩
      exact ⟨x, all_in.mpr (paced_in.mpr hx), y, all_in.mpr (rested_in.mpr hy), rfl⟩
  show sSeq _ (sSeq _ (sSeq (sFor _ _ (sFor _ _ lrIn)) _)) _ _
  unfold knownD at key
  generalize lrIn = T at key ⊢
  walk_at "pd"
  walk_at "pp"
  intro _
  refine lcP_enc Lk.d (fun l => .tuple [.int l.low, .int l.high]) _ _ (fun l hl P' p' => ?_) ?_
  · walk_at "pd"
    walk_at "pp"
    exact ⟨by decide, p'⟩
  · refine ⟨r.bounds, ?_, by have := o.looks; simpa [Rdr.bounds] using this, b2, h2, ?_⟩
    · unfold boundsD Rdr.bounds
      rw [List.map_map]
      rfl
    · refine ⟨p, rfl, o.many, b1, h1, fun _ => ?_⟩
      exact key _ _ _
def F__law_is_timetable : PF := fun as P => ∃ (p : Plan) (r : Rdr) (rs ls : List Int), as = [.d p.d, .d r.d, .d (timeD rs ls)] ∧ Paced p rs ∧ Rested r ls ∧ P (.bool true)
theorem len__law_is_timetable : ∀ as P, F__law_is_timetable as P → as.length = 3 := by rintro _ P ⟨_, _, _, _, rfl, _⟩; rfl
theorem filter_none {α : Type} (l : List α) : l.filter (fun _ => false) = [] := by
  induction l with
  | nil => rfl
  | cons x l ih => simpa using ih
theorem paired_zip {α : Type} {R : α → Int → Prop} : ∀ {xs : List α} {ys : List Int}, Paired R xs ys → ∀ q ∈ ys.zip xs, R q.2 q.1
  | _, _, .nil, q, h => by simp at h
  | _, _, .cons a t, q, h => by
    rw [List.zip_cons_cons, List.mem_cons] at h
    rcases h with rfl | h
    · exact a
    · exact paired_zip t q h
def rd__law_is_timetable : PTS :=
  (sSeq (sIf (dOr (dNot (dTru (dIs isTupD (dVar 2)))) (dOr (dTest (dBin fNe (dApp fLen (dCons (dVar 2) dNil)) (dC (.int 2)))) (dOr (dTest (dBin fNe (dApp fLen (dCons (dBin fIx (dVar 2) (dC (.int 0))) dNil)) (dApp fLen (dCons (dBin fIx (dVar 0) (dC (.int 2))) dNil)))) (dTest (dBin fNe (dApp fLen (dCons (dBin fIx (dVar 2) (dC (.int 1))) dNil)) (dApp fLen (dCons (dBin fIx (dVar 1) (dC (.int 1))) dNil))))))) (sRet (dC (.bool false))) sNext)
  (sSeq (sAsg (dComp (dZip (dCons (dBin fIx (dVar 2) (dC (.int 0))) (dCons (dBin fIx (dVar 0) (dC (.int 2))) dNil))) (aTup 2 (aCons (aName 4) (aCons (aName 5) aNil))) (dNot (dTest (dChain fLe fLe (dBin fIx (dVar 5) (dC (.int 3))) (dVar 4) (dBin fIx (dVar 5) (dC (.int 4)))))) (dC (.int 1)) [4, 5]) (aName 3))
  (sRet (dAndV (dBin fEq (dVar 3) (dLst dNil)) (dBin fEq (dComp (dZip (dCons (dBin fIx (dVar 2) (dC (.int 1))) (dCons (dBin fIx (dVar 1) (dC (.int 1))) dNil))) (aTup 2 (aCons (aName 4) (aCons (aName 6) aNil))) (dNot (dTest (dChain fLe fLe (dBin fIx (dVar 6) (dC (.int 1))) (dVar 4) (dBin fIx (dVar 6) (dC (.int 2)))))) (dC (.int 1)) [4, 6]) (dLst dNil))))))

theorem holds__law_is_timetable : ∀ as Q, F__law_is_timetable as Q → rd__law_is_timetable { nx := fun _ => Q .none, rt := Q } (startP ["plan", "reader", "value", "wrong", "rest", "write", "look"] as) := by
  rintro _ Q ⟨p, r, rs, ls, rfl, h1, h2, q⟩
  have l1 := Paired.length h1
  have l2 := Paired.length h2
  unfold rd__law_is_timetable timeD
  walk_at "pd"
  simp only [isTupD]
  walk_at "pt"
  rw [show decide (((2 : Nat) : Int) = 2) = true from rfl]
  walk_at "pt"
  walk_at "pq"
  rw [List.length_map, List.length_map, l1]
  simp only [decide_true]
  walk_at "pt"
  walk_at "pq"
  rw [List.length_map, List.length_map, l2]
  simp only [decide_true]
  walk_at "pt"
  walk_at "pq"
  intro _
  rw [zip_enc]
  refine lcP_encf (fun w : Int × Wr => .tuple [.int w.1, w.2.d]) (fun _ => .int 1) (fun _ => false) _ _ (fun w hw Pt Pf h => ?_) ?_
  · have hb := paired_zip h1 w hw
    walk_at "pt"
    walk_at "pq"
    rw [decide_eq_true hb.1]
    walk_at "pt"
    walk_at "pq"
    rw [decide_eq_true hb.2]
    walk_at "pt"
    simpa using h
  rw [filter_none]
  walk_at "pt"
  refine ⟨by decide, ?_⟩
  walk_at "pq"
  intro _
  rw [zip_enc]
  refine lcP_encf (fun w : Int × Lk => .tuple [.int w.1, w.2.d]) (fun _ => .int 1) (fun _ => false) _ _ (fun w hw Pt Pf h => ?_) ?_
  · have hb := paired_zip h2 w hw
    walk_at "pt"
    walk_at "pq"
    rw [decide_eq_true hb.1]
    walk_at "pt"
    walk_at "pq"
    rw [decide_eq_true hb.2]
    walk_at "pt"
    simpa using h
  rw [filter_none]
  walk_at "pt"
  exact ⟨by decide, q⟩

end PF
namespace PF
open PySem L2 PD
local macro_rules | `(tactic| walk_at "pd") => `(tactic| simp only [sRet, sSeq, sIf, sNext, sNever, sAsg, sDrop, sFor, forP, sAug, sApp, sExt, sOwnL, sPar, sRow, dAndV, dOrV, dNotV, dIs, dVar, dC, dChain, dBin, dUn, fNeg, dTest, dTru, dNot, dAnd, dOr, dIf, dCall, dApp, vCons, vNil, vE, vRow, vScr, dCons, dNil, dTup, dLst, dComp, dIter, dRng1, dRng2, dZip, seqD, aName, aTup_tup, aCons, aNil, fIn0, fInt, fAdd, fOrd, fEq, fNe, fIs, fIsNot, isN, fIx_tup, fIx_lst, at0, at1, at2, at3, at_4, eqOk_int, eqv_int, eqOk_bool, eqv_bool, eqOk_str, eqv_str, eqOk_non, eqv_non, eqOk_nil, eqv_nil, decide_true, decide_false,  fLen, fTuple, fList, fAll, fAny, fIntC, truD, frz, startP, wipeP, dYes, dJoin, dIxO, dLenO, dSl, dPart, dNoPart, fSl, sRng1, sOwn2, sPutK, sOwnK, dict_kd, dInO, dIterR, dListO, dInD, dGetD, dIterD, dEnum, fListD, fListS, dIterS, kd_inj, str_keyD, int_keyD, PV.rng.injEq,
  List.map_cons, List.map_nil, List.length_cons, List.length_nil, List.replicate, List.cons_append, List.nil_append, List.append_nil, List.getElem?_cons_zero, List.getElem?_cons_succ, List.set_cons_zero, List.set_cons_succ, Option.some.injEq, PV.d.injEq, PV.own.injEq, PV.scr.injEq, PyData.int.injEq, PyData.bool.injEq, PyData.list.injEq, PyData.tuple.injEq, PyData.str.injEq, List.cons.injEq, exists_eq_left', exists_eq_left, exists_eq', exists_eq_right', and_assoc, exists_and_left, Nat.zero_add, Nat.add_zero, Nat.reduceAdd, Nat.reduceSub, Nat.reduceLT, Nat.sub_self, ite_true, if_true, if_false, Bool.false_eq_true, ite_false, Bool.not_true, Bool.not_false, Bool.true_and, Bool.and_true, Bool.false_and, Bool.and_false, Bool.true_or, Bool.or_true, Bool.false_or, Bool.or_false, Bool.and_self, true_and, and_true])
local macro_rules | `(tactic| walk_at "pt") => `(tactic| try walk_at "pd")
local macro_rules | `(tactic| walk_at "pp") => `(tactic| (simp only [wr_ix0, wr_ix1, wr_ix2, wr_ix3, wr_ix4, pl_ix0, pl_ix1, pl_ix2, pl_tup, rd_ix0, rd_ix1, rd_tup, lk_ix0, lk_ix1, lk_ix2, lk_tup, cs_ix0, cs_ix1, cs_tup, tr_tup, pr_tup, op_tup] <;> walk_at "pt"))
local macro_rules | `(tactic| walk_at "pq") => `(tactic| try walk_at "pp")
theorem widths_le {k : Nat} : ∀ {bs : List (Int × Int)}, (∀ b ∈ bs, width b ≤ k) → prodW bs ≤ k ^ bs.length
  | [], _ => by simp [prodW]
  | b :: bs, h => by
    rw [prodW, List.length_cons, Nat.pow_succ, Nat.mul_comm]
    exact Nat.mul_le_mul (widths_le fun c hc => h c (by simp [hc])) (h b (by simp))
def Plan.lets (p : Plan) : Prop := ∀ w ∈ p.writes, isLetter (.str w.sign) = true
theorem seenGo_sign (st : List Int) (c t : Int) : ∀ (ts : List Int) (ws : List Wr) (z : Str), (∀ w ∈ ws, isLetter (.str w.sign) = true) → SignOk z → SignOk (seenGo st c t ts ws z)
  | [], _, z, _, h => h
  | _ :: _, [], z, _, h => h
  | a :: ts, w :: ws, z, hw, h => by
    unfold seenGo
    refine seenGo_sign st c t ts ws _ (fun v hv => hw v (by simp [hv])) ?_
    split
    · exact .inr (hw w (by simp))
    · exact h
theorem seenAt_sign {p : Plan} (h : p.lets) (ts : List Int) (c t : Int) : SignOk (seenAt p ts c t) := seenGo_sign _ _ _ _ _ _ h (.inl rfl)
theorem cat_list : ∀ l : List Str, (cat l).cps.toList = l.flatMap fun s => s.cps.toList
  | [] => by rw [cat, nil_cps]; rfl
  | z :: l => by rw [cat, app_list', cat_list l, List.flatMap_cons]
theorem one_sign {s : Str} (h : s.length = 1) : ∃ c, s = ⟨#[c]⟩ := by
  rw [len_list] at h
  match e : s.cps.toList, h with
  | [c], _ => exact ⟨c, str_list e⟩
theorem cat_ok {l : List Str} (h : ∀ s ∈ l, s.length = 1 ∧ SignOk s) : TextOk (cat l) := by
  intro c hc
  rw [cat_list, List.mem_flatMap] at hc
  obtain ⟨s, hs, hc⟩ := hc
  obtain ⟨h1, h2⟩ := h s hs
  obtain ⟨d, rfl⟩ := one_sign h1
  have : c = d := by simpa using hc
  rw [this]
  exact h2
theorem cat_len : ∀ {l : List Str}, (∀ s ∈ l, s.length = 1) → (cat l).length = l.length
  | [], _ => by rw [cat]; rfl
  | z :: l, h => by
    rw [cat, app_len, h z (by simp), cat_len fun s hs => h s (by simp [hs]), List.length_cons]
    omega
theorem text_ok {p : Plan} {r : Rdr} (h : p.lets) (h1 : ∀ w ∈ p.writes, w.sign.length = 1) {rs ls : List Int} (hl : Rested r ls) : TextOk (textOf p r rs ls) ∧ (textOf p r rs ls).length = r.looks.length := by
  have l2 := Paired.length hl
  unfold textOf
  rw [txt_cat]
  refine ⟨cat_ok fun s hs => ?_, ?_⟩
  · obtain ⟨q, _, rfl⟩ := List.mem_map.mp hs
    exact ⟨seenAt_one h1 _ _ _, seenAt_sign h _ _ _⟩
  · rw [cat_len fun s hs => by
      obtain ⟨q, _, rfl⟩ := List.mem_map.mp hs
      exact seenAt_one h1 _ _ _]
    unfold momentsOf
    rw [List.length_map, List.length_zip, sums_length]
    omega
theorem get_ent {l : List Ent} {z : Str} (h : z ∈ l.map (·.1)) : ∃ e ∈ l, e.1 = z ∧ getA (l.map entD) (Sum.inr z) = some (timeD e.2.1 e.2.2) := by
  induction l with
  | nil => cases h
  | cons e l ih =>
    by_cases q : e.1 = z
    · exact ⟨e, by simp, q, by simp [getA, entD, q]⟩
    · rw [List.map_cons, List.mem_cons] at h
      obtain ⟨e', he', h1, h2⟩ := ih (h.resolve_left fun w => q w.symm)
      refine ⟨e', by simp [he'], h1, ?_⟩
      unfold getA at h2 ⊢
      rw [List.map_cons, List.find?_cons]
      have : decide ((entD e).1 = Sum.inr z) = false := decide_eq_false fun w => q (Sum.inr.inj w)
      rw [this]
      exact h2
theorem keys_ent (l : List Ent) : (l.map entD).map (fun p => keyD p.1) = (l.map (·.1)).map .str := by
  rw [List.map_map, List.map_map]
  rfl
theorem good_strs (n : Nat) (l : List Str) (h : l.length ≤ 100000) : good (n + 1) (.tuple (l.map .str)) := ⟨by simpa using h, fun x hx => by
  obtain ⟨i, _, rfl⟩ := List.mem_map.mp hx
  cases n <;> trivial⟩
theorem Drawn.rise {m w : Int} {p : Plan} (h : Drawn m w p) : p.rise := ⟨fun x hx => ⟨(h.low x hx).1, (h.high x hx).1⟩⟩
theorem Drawn.lets {m w : Int} {p : Plan} (h : Drawn m w p) : p.lets := fun x hx => (h.letter hx).1
theorem Drawn.bsOk {m w : Int} {p : Plan} (h : Drawn m w p) (hw : w ≤ 100) : BsOk p.bounds := fun b hb => by
  obtain ⟨x, hx, rfl⟩ := List.mem_map.mp hb
  have := h.low x hx
  have := h.high x hx
  show 0 ≤ x.low ∧ x.low ≤ x.high ∧ x.high ≤ 10000
  omega
theorem Drawn.width {m w : Int} {p : Plan} (h : Drawn m w p) : ∀ b ∈ p.bounds, width b ≤ (w + 1).toNat := fun b hb => by
  obtain ⟨x, hx, rfl⟩ := List.mem_map.mp hb
  have := h.high x hx
  unfold PF.width
  show (x.high + 1 - x.low).toNat ≤ _
  omega
theorem RdrDrawn.bsOk {p : Plan} {m w : Int} {r : Rdr} (h : RdrDrawn p m w r) (hw : w ≤ 100) : BsOk r.bounds := fun b hb => by
  obtain ⟨x, hx, rfl⟩ := List.mem_map.mp hb
  obtain ⟨_, _, _⟩ := h.look x hx
  show 0 ≤ x.low ∧ x.low ≤ x.high ∧ x.high ≤ 10000
  omega
theorem RdrDrawn.width {p : Plan} {m w : Int} {r : Rdr} (h : RdrDrawn p m w r) : ∀ b ∈ r.bounds, width b ≤ (w + 1).toNat := fun b hb => by
  obtain ⟨x, hx, rfl⟩ := List.mem_map.mp hb
  obtain ⟨_, _, _⟩ := h.look x hx
  unfold PF.width
  show (x.high + 1 - x.low).toNat ≤ _
  omega
theorem RdOk.of {p : Plan} {r : Rdr} (o : p.ok) (h : RdrOk p r) : RdOk p r := ⟨o.inks, o.one, by have := o.many; omega, by have := h.many; omega, h.ev⟩
theorem pow_le {a n m k : Nat} (h : n ≤ m) (ha : 1 ≤ a) (hk : a ^ m ≤ k) : a ^ n ≤ k := Nat.le_trans (Nat.pow_le_pow_right ha h) hk
/-- what was drawn, as the law needs it -/
structure Setup (p : Plan) (r : Rdr) : Prop where
  o : p.ok
  rise : p.rise
  lets : p.lets
  ro : RdrOk p r
theorem Setup.comes {p : Plan} {r : Rdr} (h : Setup p r) {z : Str} (c : Comes p r z) : TextOk z ∧ z.length = r.looks.length := by
  obtain ⟨rs, ls, _, h2, rfl⟩ := c
  exact text_ok h.lets h.o.one h2

end PF
namespace PF
open PySem L2 PD
local macro_rules | `(tactic| walk_at "pd") => `(tactic| simp only [sOwnT, sPutT, dGet2, dInT, dGetT, sOwnF, sSeqO, sRetO, sParL, sParT, dLenSet, sOwnR, sSet, fMin, fSum, kt_inj, tup_pairI, dEnum, enumD, enumFromD, numD, isTupD, dFldZ, dFldO, sFldD, sFldA, sFldL, sFldApp, sMeth, dMethO, dMethN, nMake, sMakeP, PV.ins.injEq, PV.obj.injEq, fMax, fNotInI, fInI, fNotInX, sRet, sSeq, sIf, sNext, sNever, sAsg, sDrop, sFor, forP, sAug, sApp, sExt, sOwnL, sPar, sRow, dAndV, dOrV, dNotV, dIs, dVar, dC, dChain, dBin, dUn, fNeg, dTest, dTru, dNot, dAnd, dOr, dIf, dCall, dApp, vCons, vNil, vE, vRow, vScr, dCons, dNil, dTup, dLst, dComp, dIter, dRng1, dRng2, dZip, seqD, aName, aTup_tup, aCons, aNil, fIn0, fInt, fAdd, fOrd, fEq, fNe, fIs, fIsNot, isN, fIx_tup, fIx_lst, at0, at1, at2, at3, at_4, eqOk_int, eqv_int, eqOk_bool, eqv_bool, eqOk_str, eqv_str, eqOk_non, eqv_non, eqOk_nil, eqv_nil, decide_true, decide_false,  fLen, fTuple, fList, fAll, fAny, fIntC, truD, frz, startP, wipeP, dYes, dJoin, dIxO, dLenO, dSl, dPart, dNoPart, fSl, sRng1, sOwn2, sPar3O, sOwnN, dTupO, dRevT, dIdx, sExtT, sPar3O, sPop, dTruO, sWhile, sPutK, sOwnK, dict_kd, dInO, dIterR, dListO, dInD, dGetD, dIterD, dEnum, fListD, fListS, dIterS, kd_inj, str_keyD, int_keyD, PV.rng.injEq,
  List.map_cons, List.map_nil, List.length_cons, List.length_nil, List.replicate, List.cons_append, List.nil_append, List.append_nil, List.getElem?_cons_zero, List.getElem?_cons_succ, List.set_cons_zero, List.set_cons_succ, Option.some.injEq, PV.d.injEq, PV.own.injEq, PV.scr.injEq, PyData.int.injEq, PyData.bool.injEq, PyData.list.injEq, PyData.tuple.injEq, PyData.str.injEq, List.cons.injEq, exists_eq_left', exists_eq_left, exists_eq', exists_eq_right', and_assoc, exists_and_left, Nat.zero_add, Nat.add_zero, Nat.reduceAdd, Nat.reduceSub, Nat.reduceLT, Nat.sub_self, ite_true, if_true, if_false, Bool.false_eq_true, ite_false, Bool.not_true, Bool.not_false, Bool.true_and, Bool.and_true, Bool.false_and, Bool.and_false, Bool.true_or, Bool.or_true, Bool.false_or, Bool.or_false, Bool.and_self, true_and, and_true])
local macro_rules | `(tactic| walk_at "pt") => `(tactic| try walk_at "pd")
local macro_rules | `(tactic| walk_at "pp") => `(tactic| (simp only [wr_ix0, wr_ix1, wr_ix2, wr_ix3, wr_ix4, pl_ix0, pl_ix1, pl_ix2, pl_tup, rd_ix0, rd_ix1, rd_tup, lk_ix0, lk_ix1, lk_ix2, lk_tup, cs_ix0, cs_ix1, cs_tup, tr_tup, pr_tup, op_tup] <;> walk_at "pt"))
local macro_rules | `(tactic| walk_at "pq") => `(tactic| try walk_at "pp")
/-! ### cases -/
structure ChoiceOk (p : Plan) (r : Rdr) (cs : List Case) : Prop where
  len : cs.length = r.looks.length
  at' : ∀ j, j < r.looks.length → CaseOk p (lookAt r j).cell (cs.getD j (0, none))
def choiceD (cs : List Case) : Dt := .tuple (cs.map caseD)
def F_is_case : PF := fun as P => ∃ (p : Plan) (l : Lk) (cs : Case), as = [.d p.d, .d l.d, .d (caseD cs)] ∧ CaseOk p l.cell cs ∧ P (.bool true)
theorem len_is_case : ∀ as P, F_is_case as P → as.length = 3 := by rintro _ P ⟨_, _, _, rfl, _⟩; rfl
def rd_is_case : PTS :=
  (sSeq (sAsg (dBin fIx (dVar 0) (dC (.int 2))) (aName 3))
  (sSeq (sIf (dOr (dNot (dTru (dCall F_is_row (vCons (vE (dVar 2)) (vCons (vE (dC (.int 2))) (vCons (vE (dC (.int 2))) vNil)))))) (dNot (dTru (dCall F_is_whole (vCons (vE (dBin fIx (dVar 2) (dC (.int 0)))) (vCons (vE (dC (.int 0))) (vCons (vE (dApp fLen (dCons (dVar 3) dNil))) vNil))))))) (sRet (dC (.bool false))) sNext)
  (sSeq (sAsg (dVar 2) (aTup 2 (aCons (aName 4) (aCons (aName 5) aNil))))
  (sSeq (sIf (dTest (dBin fIs (dVar 5) (dC .none))) (sRet (dC (.bool true))) sNext)
  (sRet (dAndV (dCall F_is_whole (vCons (vE (dVar 5)) (vCons (vE (dC (.int 0))) (vCons (vE (dBin fSub (dVar 4) (dC (.int 1)))) vNil)))) (dBin fEq (dBin fIx (dBin fIx (dVar 3) (dVar 5)) (dC (.int 0))) (dBin fIx (dVar 1) (dC (.int 0))))))))))

theorem holds_is_case : ∀ as Q, F_is_case as Q → rd_is_case { nx := fun _ => Q .none, rt := Q } (startP ["plan", "look", "value", "writes", "done", "shown"] as) := by
  rintro _ Q ⟨p, l, ⟨d, s⟩, rfl, ok, q⟩
  have h1 := ok.le
  unfold rd_is_case
  walk_at "pd"
  walk_at "pp"
  refine ⟨_, 2, 2, rfl, ?_⟩
  rw [show isRow (caseD (d, s)) 2 2 = true by simp [isRow, caseD]]
  walk_at "pt"
  walk_at "pp"
  rw [List.length_map]
  refine ⟨_, 0, _, rfl, ?_⟩
  rw [whole_in (by omega) (by show (d : Int) ≤ _; have : d ≤ p.writes.length := h1; omega)]
  walk_at "pt"
  walk_at "pq"
  cases s with
  | none =>
    simp only [numD]
    walk_at "pt"
    exact q
  | some k =>
    obtain ⟨h2, h3⟩ := ok.lt k rfl
    have h1 : d ≤ p.writes.length := h1
    have h2 : k < d := h2
    simp only [numD]
    walk_at "pt"
    refine ⟨_, 0, _, rfl, ?_⟩
    rw [whole_in (by omega) (by omega)]
    walk_at "pt"
    refine wr_atF (by omega) ?_
    walk_at "pp"
    rw [show (p.at k).cell = l.cell from h3]
    walk_at "pt"
    exact q

def F_is_choice : PF := fun as P => ∃ (p : Plan) (r : Rdr) (cs : List Case), as = [.d p.d, .d r.d, .d (choiceD cs)] ∧ r.looks.length ≤ 1000 ∧ ChoiceOk p r cs ∧ P (.bool true)
theorem len_is_choice : ∀ as P, F_is_choice as P → as.length = 3 := by rintro _ P ⟨_, _, _, rfl, _⟩; rfl
def rd_is_choice : PTS :=
  (sSeq (sAsg (dBin fIx (dVar 1) (dC (.int 1))) (aName 3))
  (sSeq (sIf (dNot (dTru (dCall F_is_row (vCons (vE (dVar 2)) (vCons (vE (dApp fLen (dCons (dVar 3) dNil))) (vCons (vE (dApp fLen (dCons (dVar 3) dNil))) vNil)))))) (sRet (dC (.bool false))) sNext)
  (sRet (dApp fAll (dCons (dComp (dZip (dCons (dVar 3) (dCons (dVar 2) dNil))) (aTup 2 (aCons (aName 4) (aCons (aName 5) aNil))) dYes (dCall F_is_case (vCons (vE (dVar 0)) (vCons (vE (dVar 4)) (vCons (vE (dVar 5)) vNil)))) [4, 5]) dNil)))))

theorem zip_at {α β : Type} {d : α} {e : β} : ∀ {xs : List α} {ys : List β} {q : α × β}, q ∈ xs.zip ys → ∃ j, j < xs.length ∧ j < ys.length ∧ q = (xs.getD j d, ys.getD j e)
  | [], _, q, h => by simp at h
  | _ :: _, [], q, h => by simp at h
  | x :: xs, y :: ys, q, h => by
    rw [List.zip_cons_cons, List.mem_cons] at h
    rcases h with rfl | h
    · exact ⟨0, by simp, by simp, rfl⟩
    · obtain ⟨j, h1, h2, h3⟩ := zip_at (d := d) (e := e) h
      exact ⟨j + 1, by simpa using h1, by simpa using h2, by simpa using h3⟩
theorem holds_is_choice : ∀ as Q, F_is_choice as Q → rd_is_choice { nx := fun _ => Q .none, rt := Q } (startP ["plan", "reader", "value", "looks", "look", "case"] as) := by
  rintro _ Q ⟨p, r, cs, rfl, hr, ok, q⟩
  have hl := ok.len
  unfold rd_is_choice
  walk_at "pd"
  walk_at "pp"
  rw [List.length_map]
  refine ⟨_, _, _, rfl, ?_⟩
  rw [show isRow (choiceD cs) (r.looks.length : Nat) (r.looks.length : Nat) = true by simp [isRow, choiceD, hl]]
  unfold choiceD
  walk_at "pt"
  intro _
  rw [zip_enc]
  refine lcP_enc (fun q : Lk × Case => .tuple [q.1.d, caseD q.2]) (fun _ => .bool true) _ _ (fun q0 hq P' p' => ?_) ⟨_, bools_const _, by rw [all_true]; exact q⟩
  obtain ⟨j, h1, h2, rfl⟩ := zip_at (d := (⟨0, 0, 0⟩ : Lk)) (e := ((0, none) : Case)) hq
  walk_at "pt"
  exact ⟨p, _, _, rfl, ok.at' j h1, p'⟩
def F_check_choice : PF := fun as P => ∃ (p : Plan) (r : Rdr) (cs : List Case), as = [.d p.d, .d r.d, .d (choiceD cs)] ∧ p.ok ∧ RdrOk p r ∧ ChoiceOk p r cs ∧ P .none
theorem len_check_choice : ∀ as P, F_check_choice as P → as.length = 3 := by rintro _ P ⟨_, _, _, rfl, _⟩; rfl
def rd_check_choice : PTS :=
  (sSeq (sDrop (dCall F_check_reader (vCons (vE (dVar 0)) (vCons (vE (dVar 1)) vNil))))
  (sIf (dNot (dTru (dCall F_is_choice (vCons (vE (dVar 0)) (vCons (vE (dVar 1)) (vCons (vE (dVar 2)) vNil)))))) sNever sNext))

theorem holds_check_choice : ∀ as Q, F_check_choice as Q → rd_check_choice { nx := fun _ => Q .none, rt := Q } (startP ["plan", "reader", "choice"] as) := by
  rintro _ Q ⟨p, r, cs, rfl, o, h, ok, q⟩
  have := h.many
  unfold rd_check_choice
  walk_at "pd"
  refine ⟨p, r, rfl, o, h, p, r, cs, rfl, by omega, ok, ?_⟩
  walk_at "pd"
  exact q
def F_cases : PF := fun as P => ∃ (p : Plan) (r : Rdr) (j : Nat), as = [.d p.d, .d r.d, .d (.int j)] ∧ p.ok ∧ RdrOk p r ∧ j < r.looks.length ∧ P (.tuple ((lookCases p (lookAt r j).cell).map caseD))
theorem len_cases : ∀ as P, F_cases as P → as.length = 3 := by rintro _ P ⟨_, _, _, rfl, _⟩; rfl
def rd_cases : PTS :=
  (sSeq (sDrop (dCall F_check_reader (vCons (vE (dVar 0)) (vCons (vE (dVar 1)) vNil))))
  (sSeq (sIf (dNot (dTru (dCall F_is_whole (vCons (vE (dVar 2)) (vCons (vE (dC (.int 0))) (vCons (vE (dBin fSub (dApp fLen (dCons (dBin fIx (dVar 1) (dC (.int 1))) dNil)) (dC (.int 1)))) vNil)))))) sNever sNext)
  (sRet (dApp fTuple (dCons (dCall F_look_cases (vCons (vE (dVar 0)) (vCons (vE (dBin fIx (dBin fIx (dVar 1) (dC (.int 1))) (dVar 2))) vNil))) dNil)))))

theorem holds_cases : ∀ as Q, F_cases as Q → rd_cases { nx := fun _ => Q .none, rt := Q } (startP ["plan", "reader", "at"] as) := by
  rintro _ Q ⟨p, r, j, rfl, o, h, hj, q⟩
  have hm := o.many
  unfold rd_cases
  walk_at "pd"
  refine ⟨p, r, rfl, o, h, ?_⟩
  walk_at "pp"
  rw [List.length_map]
  refine ⟨_, 0, _, rfl, ?_⟩
  rw [whole_in (by omega) (by omega)]
  walk_at "pt"
  refine look_at hj ?_
  exact ⟨Wr.d, p, _, wd_d _, rfl, by omega, q⟩
/-! ### differences -/
def wdGo : Nat → List (Int × Int) → List Tri
  | _, [] => []
  | k, b :: bs => (k, k + 1, -b.1) :: (k + 1, k, b.2) :: wdGo (k + 1) bs
def writeDiffs (p : Plan) : List Tri := wdGo 0 p.bounds
theorem wdGo_len : ∀ (bs : List (Int × Int)) (k : Nat), (wdGo k bs).length = 2 * bs.length
  | [], _ => rfl
  | b :: bs, k => by rw [wdGo, List.length_cons, List.length_cons, wdGo_len bs, List.length_cons]; omega
def F_write_differences : PFO := fun as P => ∃ p : Plan, as = [.d p.d] ∧ p.writes.length ≤ 1000 ∧ P ((writeDiffs p).map triD)
theorem len_write_differences : ∀ as P, F_write_differences as P → as.length = 1 := by rintro _ P ⟨_, rfl, _⟩; rfl
def wdTurn : PTS := (sSeq (sApp 1 (dTup (dCons (dVar 2) (dCons (dBin fAdd (dVar 2) (dC (.int 1))) (dCons (dUn fNeg (dVar 3)) dNil)))))
  (sApp 1 (dTup (dCons (dBin fAdd (dVar 2) (dC (.int 1))) (dCons (dVar 2) (dCons (dVar 4) dNil))))))
theorem go_wd (Q : PEnds) (d0 : Dt) : ∀ (bs : List (Int × Int)) (k : Nat) (acc : List Tri) (x2 x3 x4 : PV), acc.length + 2 * bs.length ≤ 100000 →
    (∀ x2 x3 x4, Q.nx [.d d0, .own (.list ((acc ++ wdGo k bs).map triD)), x2, x3, x4]) →
    forP (aTup 2 (aCons (aName 2) (aCons (aTup 2 (aCons (aName 3) (aCons (aName 4) aNil))) aNil))) wdTurn Q (enumFromD k (bs.map fun b => .tuple [.int b.1, .int b.2])) [.d d0, .own (.list (acc.map triD)), x2, x3, x4]
  | [], k, acc, x2, x3, x4, _, q => by simpa [enumFromD, forP, wdGo] using q x2 x3 x4
  | b :: bs, k, acc, x2, x3, x4, hl, q => by
    rw [List.length_cons] at hl
    have ih := go_wd Q d0 bs (k + 1) (acc ++ [(k, k + 1, -b.1), (k + 1, k, b.2)])
    rw [List.map_cons, enumFromD]
    unfold wdTurn at ih ⊢
    generalize enumFromD (k + 1) (bs.map fun b => PyData.tuple [.int b.1, .int b.2]) = E at ih ⊢
    walk_at "pd"
    refine ⟨by decide, by rw [List.length_map, line_eq]; omega, by decide, by simp only [List.length_append, List.length_map, List.length_cons, List.length_nil]; rw [line_eq]; omega, ?_⟩
    have e : acc.map triD ++ [PyData.tuple [.int k, .int ((k : Int) + 1), .int (-b.1)]] ++ [PyData.tuple [.int ((k : Int) + 1), .int k, .int b.2]] = (acc ++ [(k, k + 1, -b.1), (k + 1, k, b.2)]).map triD := by
      simp [triD]
    rw [e]
    refine ih _ _ _ (by simp; omega) fun y2 y3 y4 => ?_
    have := q y2 y3 y4
    rw [wdGo] at this
    simpa using this
def rd_write_differences : PTSO :=
  (sSeqO (sOwnL 1 dNil)
  (sSeqO (sFor (dEnum (dCons (dCall F_rest_bounds (vCons (vE (dVar 0)) vNil)) dNil)) (aTup 2 (aCons (aName 2) (aCons (aTup 2 (aCons (aName 3) (aCons (aName 4) aNil))) aNil))) (sSeq (sApp 1 (dTup (dCons (dVar 2) (dCons (dBin fAdd (dVar 2) (dC (.int 1))) (dCons (dUn fNeg (dVar 3)) dNil)))))
  (sApp 1 (dTup (dCons (dBin fAdd (dVar 2) (dC (.int 1))) (dCons (dVar 2) (dCons (dVar 4) dNil)))))))
  (sRetO 1)))
theorem holds_write_differences : ∀ as Q, F_write_differences as Q → rd_write_differences Q (startP ["plan", "told", "number", "low", "high"] as) := by
  rintro _ Q ⟨p, rfl, hn, q⟩
  have key := fun x2 x3 x4 => go_wd { nx := sRetO 1 Q, rt := fun _ => False } p.d p.bounds 0 [] x2 x3 x4 (by rw [bounds_len]; simp; omega) fun y2 y3 y4 => by
    walk_at "pd"
    exact q
  show sSeqO _ (sSeqO (sFor _ _ wdTurn) _) _ _
  generalize wdTurn = T at key ⊢
  walk_at "pd"
  refine ⟨by decide, p, rfl, ?_⟩
  unfold boundsD
  walk_at "pt"
  exact fun _ => key _ _ _

end PF
namespace PF
open PySem L2 PD
local macro_rules | `(tactic| walk_at "pd") => `(tactic| simp only [sOwnT, sPutT, dGet2, dInT, dGetT, sOwnF, sSeqO, sRetO, sParL, sParT, dLenSet, sOwnR, sSet, fMin, fSum, kt_inj, tup_pairI, dEnum, enumD, enumFromD, numD, isTupD, dFldZ, dFldO, sFldD, sFldA, sFldL, sFldApp, sMeth, dMethO, dMethN, nMake, sMakeP, PV.ins.injEq, PV.obj.injEq, fMax, fNotInI, fInI, fNotInX, sRet, sSeq, sIf, sNext, sNever, sAsg, sDrop, sFor, forP, sAug, sApp, sExt, sOwnL, sPar, sRow, dAndV, dOrV, dNotV, dIs, dVar, dC, dChain, dBin, dUn, fNeg, dTest, dTru, dNot, dAnd, dOr, dIf, dCall, dApp, vCons, vNil, vE, vRow, vScr, dCons, dNil, dTup, dLst, dComp, dIter, dRng1, dRng2, dZip, seqD, aName, aTup_tup, aCons, aNil, fIn0, fInt, fAdd, fOrd, fEq, fNe, fIs, fIsNot, isN, fIx_tup, fIx_lst, at0, at1, at2, at3, at_4, eqOk_int, eqv_int, eqOk_bool, eqv_bool, eqOk_str, eqv_str, eqOk_non, eqv_non, eqOk_nil, eqv_nil, decide_true, decide_false,  fLen, fTuple, fList, fAll, fAny, fIntC, truD, frz, startP, wipeP, dYes, dJoin, dIxO, dLenO, dSl, dPart, dNoPart, fSl, sRng1, sOwn2, sPar3O, sOwnN, dTupO, dRevT, dIdx, sExtT, sPar3O, sPop, dTruO, sWhile, sPutK, sOwnK, dict_kd, dInO, dIterR, dListO, dInD, dGetD, dIterD, dEnum, fListD, fListS, dIterS, kd_inj, str_keyD, int_keyD, PV.rng.injEq,
  List.map_cons, List.map_nil, List.length_cons, List.length_nil, List.replicate, List.cons_append, List.nil_append, List.append_nil, List.getElem?_cons_zero, List.getElem?_cons_succ, List.set_cons_zero, List.set_cons_succ, Option.some.injEq, PV.d.injEq, PV.own.injEq, PV.scr.injEq, PyData.int.injEq, PyData.bool.injEq, PyData.list.injEq, PyData.tuple.injEq, PyData.str.injEq, List.cons.injEq, exists_eq_left', exists_eq_left, exists_eq', exists_eq_right', and_assoc, exists_and_left, Nat.zero_add, Nat.add_zero, Nat.reduceAdd, Nat.reduceSub, Nat.reduceLT, Nat.sub_self, ite_true, if_true, if_false, Bool.false_eq_true, ite_false, Bool.not_true, Bool.not_false, Bool.true_and, Bool.and_true, Bool.false_and, Bool.and_false, Bool.true_or, Bool.or_true, Bool.false_or, Bool.or_false, Bool.and_self, true_and, and_true])
local macro_rules | `(tactic| walk_at "pt") => `(tactic| try walk_at "pd")
local macro_rules | `(tactic| walk_at "pp") => `(tactic| (simp only [wr_ix0, wr_ix1, wr_ix2, wr_ix3, wr_ix4, pl_ix0, pl_ix1, pl_ix2, pl_tup, rd_ix0, rd_ix1, rd_tup, lk_ix0, lk_ix1, lk_ix2, lk_tup, cs_ix0, cs_ix1, cs_tup, tr_tup, pr_tup, op_tup] <;> walk_at "pt"))
local macro_rules | `(tactic| walk_at "pq") => `(tactic| try walk_at "pp")
def keyT (x : Tri) : Int × Int := ((x.1 : Int), (x.2.1 : Int))
def stepL (l : List Pk) (x : Tri) : List Pk := putP l (keyT x) (if (getP l (keyT x)).getD x.2.2 < x.2.2 then (getP l (keyT x)).getD x.2.2 else x.2.2)
def leasts (ts : List Tri) : List Pk := ts.foldl stepL []
structure Leasts (ts : List Tri) (l : List Pk) : Prop where
  nd : (keysP l).Nodup
  up : ∀ x ∈ ts, ∃ c, (keyT x, c) ∈ l ∧ c ≤ x.2.2
  src : ∀ e ∈ l, ∃ x ∈ ts, e = (keyT x, x.2.2)
  few : l.length ≤ ts.length
theorem leasts_step {ts : List Tri} {l : List Pk} {x : Tri} (h : Leasts ts l) : Leasts (ts ++ [x]) (stepL l x) := by
  have hn : ∀ c, getP l (keyT x) = some c → (keyT x, c) ∈ l := fun c e => getP_mem e
  refine ⟨putP_nodup h.nd, fun y hy => ?_, fun e he => ?_, by have := putP_len l (keyT x) (if (getP l (keyT x)).getD x.2.2 < x.2.2 then (getP l (keyT x)).getD x.2.2 else x.2.2); have := h.few; rw [List.length_append, List.length_singleton]; unfold stepL; omega⟩
  · rcases List.mem_append.mp hy with hy | hy
    · obtain ⟨c, h1, h2⟩ := h.up y hy
      by_cases e : keyT y = keyT x
      · refine ⟨_, (putP_mem h.nd).mpr (.inl (by rw [e])), ?_⟩
        have hc := mem_getP h.nd h1
        rw [e] at hc
        rw [hc]
        simp only [Option.getD_some]
        split <;> omega
      · exact ⟨c, (putP_mem h.nd).mpr (.inr ⟨h1, e⟩), h2⟩
    · rw [List.mem_singleton] at hy
      subst hy
      refine ⟨_, (putP_mem h.nd).mpr (.inl rfl), ?_⟩
      split <;> omega
  · rcases (putP_mem h.nd).mp he with rfl | ⟨h1, _⟩
    · split
      · next hlt =>
        cases q : getP l (keyT x) with
        | none => rw [q] at hlt; simp at hlt
        | some c =>
          obtain ⟨y, hy, e2⟩ := h.src _ (hn c q)
          exact ⟨y, List.mem_append_left _ hy, by rw [Option.getD_some, e2]⟩
      · exact ⟨x, by simp, rfl⟩
    · obtain ⟨y, hy, e2⟩ := h.src _ h1
      exact ⟨y, List.mem_append_left _ hy, e2⟩
theorem leasts_go : ∀ (us ts : List Tri) (l : List Pk), Leasts ts l → Leasts (ts ++ us) (us.foldl stepL l)
  | [], ts, l, h => by simpa using h
  | x :: us, ts, l, h => by
    have := leasts_go us (ts ++ [x]) (stepL l x) (leasts_step h)
    rw [List.foldl_cons]
    simpa using this
theorem leasts_ok (ts : List Tri) : Leasts ts (leasts ts) := by
  have := leasts_go ts [] [] ⟨List.nodup_nil, by simp, by simp, Nat.le_refl _⟩
  unfold leasts
  simpa using this
def F_least_told : PF := fun as P => ∃ ts : List Tri, as = [.d (.list (ts.map triD))] ∧ ts.length ≤ 1000 ∧ P (kt (leasts ts))
theorem len_least_told : ∀ as P, F_least_told as P → as.length = 1 := by rintro _ P ⟨_, rfl, _⟩; rfl
def ltTurn : PTS := (sPutT 1 (dTup (dCons (dVar 2) (dCons (dVar 3) dNil))) (dApp fMin (dCons (dVar 4) (dCons (dGet2 1 (dTup (dCons (dVar 2) (dCons (dVar 3) dNil))) (dVar 4)) dNil))))
theorem go_lt (Q : PEnds) (t : PTS) (d0 : Dt) : ∀ (ts : List Tri) (l : List Pk) (x2 x3 x4 : PV), l.length + ts.length ≤ 100000 → (∀ x2 x3 x4, t Q [.d d0, .own (kt (ts.foldl stepL l)), x2, x3, x4]) →
    forP (aTup 3 (aCons (aName 2) (aCons (aName 3) (aCons (aName 4) aNil)))) ltTurn { Q with nx := t Q } (ts.map triD) [.d d0, .own (kt l), x2, x3, x4]
  | [], l, x2, x3, x4, _, q => q x2 x3 x4
  | x :: ts, l, x2, x3, x4, hl, q => by
    rw [List.length_cons] at hl
    have ih := go_lt Q t d0 ts (stepL l x)
    unfold ltTurn at ih ⊢
    rw [List.map_cons]
    unfold triD at ih ⊢
    walk_at "pd"
    refine ⟨by decide, by decide, by rw [line_eq]; omega, ?_⟩
    refine ih _ _ _ (by have := putP_len l (keyT x) (if (getP l (keyT x)).getD x.2.2 < x.2.2 then (getP l (keyT x)).getD x.2.2 else x.2.2); unfold stepL; omega) fun y2 y3 y4 => ?_
    exact q y2 y3 y4
def rd_least_told : PTS :=
  (sSeq (sOwnT 1)
  (sSeq (sFor (dIter (dVar 0)) (aTup 3 (aCons (aName 2) (aCons (aName 3) (aCons (aName 4) aNil)))) (sPutT 1 (dTup (dCons (dVar 2) (dCons (dVar 3) dNil))) (dApp fMin (dCons (dVar 4) (dCons (dGet2 1 (dTup (dCons (dVar 2) (dCons (dVar 3) dNil))) (dVar 4)) dNil)))))
  (sRet (dVar 1))))

theorem holds_least_told : ∀ as Q, F_least_told as Q → rd_least_told { nx := fun _ => Q .none, rt := Q } (startP ["told", "leasts", "x", "y", "c"] as) := by
  rintro _ Q ⟨ts, rfl, hn, q⟩
  have key := fun x2 x3 x4 => go_lt { nx := fun _ => Q .none, rt := Q } (sRet (dVar 1)) (.list (ts.map triD)) ts [] x2 x3 x4 (by simp; omega) fun y2 y3 y4 => by
    walk_at "pd"
    exact q
  show sSeq _ (sSeq (sFor _ _ ltTurn) _) _ _
  generalize ltTurn = T at key ⊢
  walk_at "pd"
  exact fun _ => key _ _ _
def chDiffs (p : Plan) (r : Rdr) : Nat → List Case → List Tri
  | _, [] => []
  | j, c :: cs => lookDiffs p r j c ++ chDiffs p r (j + 1) cs
def allDiffs (p : Plan) (r : Rdr) (cs : List Case) : List Tri := writeDiffs p ++ chDiffs p r 0 cs
theorem lookDiffs_len {p : Plan} {r : Rdr} {j : Nat} {c : Case} (h : c.1 ≤ p.writes.length) : (lookDiffs p r j c).length ≤ p.writes.length + 5 := by
  have := caseDiffs_len p (evOf p j) (lookAt r j).cell c h
  unfold lookDiffs
  rw [List.length_append]
  simp only [List.length_cons, List.length_nil]
  omega
theorem chDiffs_len {p : Plan} {r : Rdr} : ∀ (cs : List Case) (j : Nat), (∀ c ∈ cs, c.1 ≤ p.writes.length) → (chDiffs p r j cs).length ≤ cs.length * (p.writes.length + 5)
  | [], _, _ => by simp [chDiffs]
  | c :: cs, j, h => by
    have h1 := lookDiffs_len (r := r) (j := j) (h c (by simp))
    have h2 := chDiffs_len (r := r) cs (j + 1) fun d hd => h d (by simp [hd])
    rw [chDiffs, List.length_append, List.length_cons, Nat.succ_mul]
    omega
/-- differences within bounds -/
structure Tame (p : Plan) (r : Rdr) (cs : List Case) : Prop where
  few : (allDiffs p r cs).length < 64
  lo : ∀ x ∈ allDiffs p r cs, x.1 < 900 ∧ x.2.1 < 900 ∧ -100 ≤ x.2.2 ∧ x.2.2 < 900
structure DiffsAre (p : Plan) (r : Rdr) (cs : List Case) (es : List Pk) : Prop where
  perm : es.Perm (leasts (allDiffs p r cs))
  up : es.Pairwise fun a b => rk 100 1000 (rowP3 a) ≤ rk 100 1000 (rowP3 b)
def pksD (es : List Pk) : Dt := .tuple (es.map fun e => rowI (rowP3 e))
def F_differences : PF := fun as P => ∃ (p : Plan) (r : Rdr) (cs : List Case), as = [.d p.d, .d r.d, .d (choiceD cs)] ∧ p.ok ∧ RdrOk p r ∧ ChoiceOk p r cs ∧ Tame p r cs ∧ ∀ es, DiffsAre p r cs es → P (pksD es)
theorem len_differences : ∀ as P, F_differences as P → as.length = 3 := by rintro _ P ⟨_, _, _, rfl, _⟩; rfl
def dfTurn : PTS := (sExt 3 (dCall F_look_differences (vCons (vE (dVar 0)) (vCons (vE (dVar 1)) (vCons (vE (dVar 4)) (vCons (vE (dVar 5)) vNil))))))
theorem go_df (Q : PEnds) (t : PTS) (p : Plan) (r : Rdr) (d2 : Dt) (x6 x7 x8 : PV) (hi : p.inks) (hn : p.writes.length ≤ 1000) : ∀ (cs : List Case) (j : Nat) (acc : List Tri) (x4 x5 : PV), j + cs.length = r.looks.length → (∀ c ∈ cs, c.1 ≤ p.writes.length ∧ ∀ k, c.2 = some k → k < c.1) → acc.length + (chDiffs p r j cs).length ≤ 100000 →
    (∀ x4 x5, t Q [.d p.d, .d r.d, .d d2, .own (.list ((acc ++ chDiffs p r j cs).map triD)), x4, x5, x6, x7, x8]) →
    forP (aTup 2 (aCons (aName 4) (aCons (aName 5) aNil))) dfTurn { Q with nx := t Q } (enumFromD j (cs.map caseD)) [.d p.d, .d r.d, .d d2, .own (.list (acc.map triD)), x4, x5, x6, x7, x8]
  | [], j, acc, x4, x5, _, _, _, q => by simpa [enumFromD, forP, chDiffs] using q x4 x5
  | c :: cs, j, acc, x4, x5, hj, hc, hl, q => by
    rw [List.length_cons] at hj
    rw [chDiffs, List.length_append] at hl
    have h1 := hc c (by simp)
    have ih := go_df Q t p r d2 x6 x7 x8 hi hn cs (j + 1) (acc ++ lookDiffs p r j c)
    rw [List.map_cons, enumFromD]
    unfold dfTurn at ih ⊢
    generalize enumFromD (j + 1) (cs.map caseD) = E at ih ⊢
    walk_at "pd"
    refine ⟨p, r, j, c, rfl, by omega, hi, hn, h1.1, h1.2, ?_⟩
    refine ⟨_, rfl, by rw [List.length_map, List.length_map, line_eq]; omega, ?_⟩
    rw [← List.map_append]
    refine ih _ _ (by omega) (fun d hd => hc d (by simp [hd])) (by rw [List.length_append]; omega) fun y4 y5 => ?_
    have := q y4 y5
    rw [chDiffs] at this
    rw [List.append_assoc]
    exact this
theorem lcT_go {i j k : Nat} {te : PT0} {ρ : List PV} (f : Pk → Dt) : ∀ (es : List Pk) (acc : List Dt) (P : List Dt → Prop), (∀ e ∈ es, ∀ P' : Dt → Prop, P' (f e) → te (put3 i j k e ρ) P') → P (acc ++ es.map f) → lcT te i j k ρ es acc P
  | [], acc, P, _, p => by simpa [lcT] using p
  | e :: es, acc, P, h, p => by
    rw [lcT]
    refine h e (by simp) _ (lcT_go f es _ P (fun d hd => h d (by simp [hd])) ?_)
    simpa using p
theorem bm_rowP3 {e : Pk} (h1 : -100 ≤ e.1.1 ∧ e.1.1 < 900) (h2 : -100 ≤ e.1.2 ∧ e.1.2 < 900) (h3 : -100 ≤ e.2 ∧ e.2 < 900) : Bm 100 1000 (rowP3 e) := by
  intro x hx
  unfold rowP3 at hx
  simp only [List.map_cons, List.map_nil, List.mem_cons, List.not_mem_nil, or_false] at hx
  rcases hx with rfl | rfl | rfl <;> omega
theorem tame_row {p : Plan} {r : Rdr} {cs : List Case} (T : Tame p r cs) {e : Pk} (he : e ∈ leasts (allDiffs p r cs)) : Bm 100 1000 (rowP3 e) := by
  obtain ⟨x, hx, rfl⟩ := (leasts_ok _).src e he
  obtain ⟨h1, h2, h3, h4⟩ := T.lo x hx
  exact bm_rowP3 (by show -100 ≤ (x.1 : Int) ∧ (x.1 : Int) < 900; omega) (by show -100 ≤ (x.2.1 : Int) ∧ (x.2.1 : Int) < 900; omega) ⟨h3, h4⟩
def rd_differences : PTS :=
  (sSeq (sDrop (dCall F_check_choice (vCons (vE (dVar 0)) (vCons (vE (dVar 1)) (vCons (vE (dVar 2)) vNil)))))
  (sSeq (sOwnF 3 F_write_differences (vCons (vE (dVar 0)) vNil))
  (sSeq (sFor (dEnum (dCons (dVar 2) dNil)) (aTup 2 (aCons (aName 4) (aCons (aName 5) aNil))) (sExt 3 (dCall F_look_differences (vCons (vE (dVar 0)) (vCons (vE (dVar 1)) (vCons (vE (dVar 4)) (vCons (vE (dVar 5)) vNil)))))))
  (sRet (dApp fTuple (dCons (dApp (fSortR 3 100 1000) (dCons (dCompT (dCall F_least_told (vCons (vE (dVar 3)) vNil)) 6 7 8 (dTup (dCons (dVar 6) (dCons (dVar 7) (dCons (dVar 8) dNil)))) [6, 7, 8]) dNil)) dNil))))))

theorem holds_differences : ∀ as Q, F_differences as Q → rd_differences { nx := fun _ => Q .none, rt := Q } (startP ["plan", "reader", "choice", "told", "at", "case", "x", "y", "c"] as) := by
  rintro _ Q ⟨p, r, cs, rfl, o, h, ok, T, q⟩
  have hm := o.many
  have hk := h.many
  have hcs : ∀ c ∈ cs, c.1 ≤ p.writes.length ∧ ∀ k, c.2 = some k → k < c.1 := fun c hc => by
    obtain ⟨j, hj, rfl⟩ := List.mem_iff_getElem.mp hc
    have := ok.at' j (by rw [← ok.len]; exact hj)
    rw [show cs.getD j (0, none) = cs[j] by simp [hj]] at this
    exact ⟨this.le, fun k hk => (this.lt k hk).1⟩
  have hfew := T.few
  have L := leasts_ok (allDiffs p r cs)
  have hl := L.few
  have key := fun x4 x5 x6 x7 x8 => go_df { nx := fun _ => Q .none, rt := Q } (sRet (dApp fTuple (dCons (dApp (fSortR 3 100 1000) (dCons (dCompT (dCall F_least_told (vCons (vE (dVar 3)) vNil)) 6 7 8 (dTup (dCons (dVar 6) (dCons (dVar 7) (dCons (dVar 8) dNil)))) [6, 7, 8]) dNil)) dNil))) p r (choiceD cs) x6 x7 x8 o.inks (by omega) cs 0 (writeDiffs p) x4 x5 (by rw [ok.len]; omega) hcs (by unfold allDiffs at hfew; rw [List.length_append] at hfew; omega) fun y4 y5 => by
    have hfew' : (writeDiffs p ++ chDiffs p r 0 cs).length < 64 := hfew
    unfold dCompT
    walk_at "pd"
    refine ⟨writeDiffs p ++ chDiffs p r 0 cs, rfl, by omega, leasts (writeDiffs p ++ chDiffs p r 0 cs), rfl, ?_⟩
    refine ⟨by rw [line_eq]; unfold allDiffs at hl; omega, ?_⟩
    refine lcT_go (fun e => rowI (rowP3 e)) _ [] _ (fun e he P' p' => ?_) ?_
    · unfold put3
      walk_at "pt"
      exact ⟨by decide, p'⟩
    · rw [List.nil_append]
      refine ⟨(leasts (allDiffs p r cs)).map rowP3, .inl ?_, by decide, by rw [List.length_map]; omega, fun x hx => ?_, fun out h1 h2 => ?_⟩
      · rw [List.map_map]; rfl
      · obtain ⟨e, he, rfl⟩ := List.mem_map.mp hx
        exact ⟨rfl, tame_row T he⟩
      · obtain ⟨es, h3, rfl⟩ := perm_map rowP3 h1
        rw [List.pairwise_map] at h2
        have := q es ⟨h3, h2⟩
        rw [List.map_map]
        exact this
  show sSeq _ (sSeq _ (sSeq (sFor _ _ dfTurn) _)) _ _
  generalize dfTurn = T2 at key ⊢
  unfold choiceD at key ⊢
  generalize (sRet _ : PTS) = T3 at key ⊢
  walk_at "pd"
  refine ⟨p, r, cs, rfl, o, h, ok, ?_⟩
  walk_at "pt"
  exact ⟨p, rfl, by omega, fun _ => key _ _ _ _ _⟩

end PF
namespace PF
open PySem L2 PD
local macro_rules | `(tactic| walk_at "pd") => `(tactic| simp only [sOwnT, sPutT, dGet2, dInT, dGetT, sOwnF, sSeqO, sRetO, sParL, sParT, dLenSet, sOwnR, sSet, fMin, fSum, kt_inj, tup_pairI, dEnum, enumD, enumFromD, numD, isTupD, dFldZ, dFldO, sFldD, sFldA, sFldL, sFldApp, sMeth, dMethO, dMethN, nMake, sMakeP, PV.ins.injEq, PV.obj.injEq, fMax, fNotInI, fInI, fNotInX, sRet, sSeq, sIf, sNext, sNever, sAsg, sDrop, sFor, forP, sAug, sApp, sExt, sOwnL, sPar, sRow, dAndV, dOrV, dNotV, dIs, dVar, dC, dChain, dBin, dUn, fNeg, dTest, dTru, dNot, dAnd, dOr, dIf, dCall, dApp, vCons, vNil, vE, vRow, vScr, dCons, dNil, dTup, dLst, dComp, dIter, dRng1, dRng2, dZip, seqD, aName, aTup_tup, aCons, aNil, fIn0, fInt, fAdd, fOrd, fEq, fNe, fIs, fIsNot, isN, fIx_tup, fIx_lst, at0, at1, at2, at3, at_4, eqOk_int, eqv_int, eqOk_bool, eqv_bool, eqOk_str, eqv_str, eqOk_non, eqv_non, eqOk_nil, eqv_nil, decide_true, decide_false,  fLen, fTuple, fList, fAll, fAny, fIntC, truD, frz, startP, wipeP, dYes, dJoin, dIxO, dLenO, dSl, dPart, dNoPart, fSl, sRng1, sOwn2, sPar3O, sOwnN, dTupO, dRevT, dIdx, sExtT, sPar3O, sPop, dTruO, sWhile, sPutK, sOwnK, dict_kd, dInO, dIterR, dListO, dInD, dGetD, dIterD, dEnum, fListD, fListS, dIterS, kd_inj, str_keyD, int_keyD, PV.rng.injEq,
  List.map_cons, List.map_nil, List.length_cons, List.length_nil, List.replicate, List.cons_append, List.nil_append, List.append_nil, List.getElem?_cons_zero, List.getElem?_cons_succ, List.set_cons_zero, List.set_cons_succ, Option.some.injEq, PV.d.injEq, PV.own.injEq, PV.scr.injEq, PyData.int.injEq, PyData.bool.injEq, PyData.list.injEq, PyData.tuple.injEq, PyData.str.injEq, List.cons.injEq, exists_eq_left', exists_eq_left, exists_eq', exists_eq_right', and_assoc, exists_and_left, Nat.zero_add, Nat.add_zero, Nat.reduceAdd, Nat.reduceSub, Nat.reduceLT, Nat.sub_self, ite_true, if_true, if_false, Bool.false_eq_true, ite_false, Bool.not_true, Bool.not_false, Bool.true_and, Bool.and_true, Bool.false_and, Bool.and_false, Bool.true_or, Bool.or_true, Bool.false_or, Bool.or_false, Bool.and_self, true_and, and_true])
local macro_rules | `(tactic| walk_at "pt") => `(tactic| try walk_at "pd")
local macro_rules | `(tactic| walk_at "pp") => `(tactic| (simp only [wr_ix0, wr_ix1, wr_ix2, wr_ix3, wr_ix4, pl_ix0, pl_ix1, pl_ix2, pl_tup, rd_ix0, rd_ix1, rd_tup, lk_ix0, lk_ix1, lk_ix2, lk_tup, cs_ix0, cs_ix1, cs_tup, tr_tup, pr_tup, op_tup] <;> walk_at "pt"))
local macro_rules | `(tactic| walk_at "pq") => `(tactic| try walk_at "pp")
/-! ### ways along followers -/
inductive Way (f : Nat → Option Nat) (w : Nat → Nat → Int) : Nat → List Nat → Nat → Int → Prop
  | nil (m : Nat) : Way f w m [] m 0
  | cons {m y z : Nat} {l : List Nat} {s : Int} : f m = some y → Way f w y l z s → Way f w m (m :: l) z (w m y + s)
theorem Way.snoc {f : Nat → Option Nat} {w : Nat → Nat → Int} {m z y : Nat} {l : List Nat} {s : Int} (h : Way f w m l z s) (e : f z = some y) : Way f w m (l ++ [z]) y (s + w z y) := by
  induction h with
  | nil m => have := Way.cons (w := w) e (.nil y); simpa using this
  | cons e1 _ ih => rw [List.cons_append, show ∀ a b c : Int, a + b + c = a + (b + c) from fun a b c => by omega]; exact .cons e1 (ih e)
theorem Way.tele {f : Nat → Option Nat} {w : Nat → Nat → Int} {b : Nat → Int} {m z : Nat} {l : List Nat} {s : Int} (h : Way f w m l z s) (hb : ∀ x y, x ∈ l → f x = some y → b y + w x y ≤ b x) : b z + s ≤ b m := by
  induction h with
  | nil m => omega
  | cons e _ ih =>
    have h1 := ih fun x y hx => hb x y (List.mem_cons_of_mem _ hx)
    have h2 := hb _ _ (List.mem_cons_self ..) e
    omega
theorem Way.congr {f g : Nat → Option Nat} {w : Nat → Nat → Int} {m z : Nat} {l : List Nat} {s : Int} (h : Way f w m l z s) (hb : ∀ x, x ∈ l → f x = g x) : Way g w m l z s := by
  induction h with
  | nil m => exact .nil m
  | cons e _ ih =>
    exact .cons (by rw [← hb _ (List.mem_cons_self ..)]; exact e) (ih fun x hx => hb x (List.mem_cons_of_mem _ hx))
theorem Way.split {f : Nat → Option Nat} {w : Nat → Nat → Int} {x m z : Nat} {l : List Nat} {s : Int} (h : Way f w m l z s) (hx : x ∈ l) (nd : l.Nodup) : ∃ l1 l2 s1 s2 y, Way f w m l1 x s1 ∧ f x = some y ∧ Way f w y l2 z s2 ∧ s = s1 + w x y + s2 ∧ x ∉ l1 ∧ x ∉ l2 := by
  induction h with
  | nil m => cases hx
  | @cons m y z l s e t ih =>
    rw [List.nodup_cons] at nd
    by_cases q : x = m
    · subst q
      exact ⟨[], l, 0, s, y, .nil _, e, t, by omega, by simp, nd.1⟩
    · have hx' : x ∈ l := by
        rcases List.mem_cons.mp hx with h | h
        · exact absurd h q
        · exact h
      obtain ⟨l1, l2, s1, s2, y', h1, h2, h3, h4, h5, h6⟩ := ih hx' nd.2
      exact ⟨m :: l1, l2, w m y + s1, s2, y', .cons e h1, h2, h3, by omega, by simp [q, h5], h6⟩
/-! ### the search for a ring, pass by pass -/
def xN (e : Pk) : Nat := e.1.1.toNat
def yN (e : Pk) : Nat := e.1.2.toNat
def wtE (es : List Pk) (x y : Nat) : Int := (getP es ((x : Int), (y : Int))).getD 0
structure RowsIn (n : Nat) (es : List Pk) : Prop where
  nd : (keysP es).Nodup
  at' : ∀ e ∈ es, (0 ≤ e.1.1 ∧ e.1.1 < n) ∧ (0 ≤ e.1.2 ∧ e.1.2 < n)
theorem RowsIn.x {n : Nat} {es : List Pk} (h : RowsIn n es) {e : Pk} (he : e ∈ es) : ((xN e : Nat) : Int) = e.1.1 ∧ xN e < n ∧ ((yN e : Nat) : Int) = e.1.2 ∧ yN e < n := by
  have := h.at' e he
  unfold xN yN
  omega
theorem RowsIn.wt {n : Nat} {es : List Pk} (h : RowsIn n es) {e : Pk} (he : e ∈ es) : wtE es (xN e) (yN e) = e.2 := by
  obtain ⟨h1, _, h2, _⟩ := h.x he
  unfold wtE
  rw [h1, h2]
  have : getP es (e.1.1, e.1.2) = some e.2 := mem_getP h.nd he
  rw [this]
  rfl
def HoldsE (b : Nat → Int) (e : Pk) : Prop := b (xN e) ≤ b (yN e) + e.2
def EdgeE (es : List Pk) (x y : Nat) : Prop := ((x : Int), (y : Int)) ∈ keysP es
structure Bf (n k : Nat) (es done : List Pk) (b : Nat → Int) (f : Nat → Option Nat) (T : Nat → Nat) (mv : Option Nat) : Prop where
  fw : ∀ x y, f x = some y → x < n ∧ y < n ∧ EdgeE es x y ∧ b y + wtE es x y ≤ b x ∧ T x ≤ T y + 1
  tz : ∀ x, T x ≠ 0 → ∃ y, f x = some y
  old : ∀ e ∈ es, HoldsE b e ∨ k ≤ T (yN e) + 1
  new : ∀ e ∈ done, HoldsE b e ∨ k ≤ T (yN e)
  neg : ∀ m l s, l ≠ [] → l.Nodup → Way f (wtE es) m l m s → s < 0
  mz : ∀ z, mv = some z → z < n ∧ T z = k
  tk : ∀ x, T x ≤ k
  nm : mv = none → ∀ e ∈ done, HoldsE b e
def upN {α : Type} (g : Nat → α) (x : Nat) (v : α) : Nat → α := fun i => if i = x then v else g i
theorem upN_same {α : Type} {g : Nat → α} {x : Nat} {v : α} : upN g x v x = v := if_pos rfl
theorem upN_ne {α : Type} {g : Nat → α} {x i : Nat} {v : α} (h : i ≠ x) : upN g x v i = g i := if_neg h
theorem Bf.stay {n k : Nat} {es done : List Pk} {b : Nat → Int} {f : Nat → Option Nat} {T : Nat → Nat} {mv : Option Nat} (B : Bf n k es done b f T mv) {e : Pk} (h : ¬ b (yN e) + e.2 < b (xN e)) : Bf n k es (done ++ [e]) b f T mv := by
  have hh : HoldsE b e := by unfold HoldsE; omega
  refine ⟨B.fw, B.tz, B.old, fun d hd => ?_, B.neg, B.mz, B.tk, fun q d hd => ?_⟩
  · rcases List.mem_append.mp hd with hd | hd
    · exact B.new d hd
    · rw [List.mem_singleton] at hd; subst hd; exact .inl hh
  · rcases List.mem_append.mp hd with hd | hd
    · exact B.nm q d hd
    · rw [List.mem_singleton] at hd; subst hd; exact hh
theorem Bf.move {n k : Nat} {es done : List Pk} {b : Nat → Int} {f : Nat → Option Nat} {T : Nat → Nat} {mv : Option Nat} (R : RowsIn n es) (B : Bf n k es done b f T mv) (hk : 1 ≤ k) (hd : ∀ d ∈ done, d ∈ es) {e : Pk} (he : e ∈ es) (h : b (yN e) + e.2 < b (xN e)) :
    Bf n k es (done ++ [e]) (upN b (xN e) (b (yN e) + e.2)) (upN f (xN e) (some (yN e))) (upN T (xN e) k) (some (xN e)) := by
  obtain ⟨ex, hx, ey, hy⟩ := R.x he
  have hw := R.wt he
  have edge : EdgeE es (xN e) (yN e) := by
    unfold EdgeE keysP
    rw [ex, ey]
    exact List.mem_map.mpr ⟨e, he, rfl⟩
  have hT : k ≤ T (yN e) + 1 := by
    rcases B.old e he with q | q
    · unfold HoldsE at q; omega
    · exact q
  have bl : ∀ i, upN b (xN e) (b (yN e) + e.2) i ≤ b i := fun i => by
    unfold upN; split
    · next q => subst q; omega
    · omega
  have tl : ∀ i, T i ≤ upN T (xN e) k i := fun i => by
    unfold upN; split
    · exact B.tk i
    · exact Nat.le_refl _
  have keep : ∀ (d : Pk) (K : Nat), K ≤ k → (HoldsE b d ∨ K ≤ T (yN d)) → HoldsE (upN b (xN e) (b (yN e) + e.2)) d ∨ K ≤ upN T (xN e) k (yN d) := fun d K hK q => by
    by_cases z : yN d = xN e
    · right; rw [z, upN_same]; exact hK
    · rcases q with q | q
      · left
        unfold HoldsE at q ⊢
        rw [upN_ne z]
        have := bl (xN d)
        omega
      · right; rw [upN_ne z]; exact q
  refine ⟨fun x y hf => ?_, fun x hx0 => ?_, fun d hd' => ?_, fun d hd' => ?_, fun m l s hl nd W => ?_, fun z hz => ?_, fun x => ?_, fun q => ?_⟩
  · by_cases q : x = xN e
    · subst q
      rw [upN_same] at hf
      cases hf
      refine ⟨hx, hy, edge, ?_, ?_⟩
      · rw [hw, upN_same]
        by_cases z : yN e = xN e
        · rw [z, upN_same]; rw [z] at h; omega
        · rw [upN_ne z]; omega
      · rw [upN_same]; have := tl (yN e); omega
    · rw [upN_ne q] at hf
      obtain ⟨h1, h2, h3, h4, h5⟩ := B.fw x y hf
      refine ⟨h1, h2, h3, ?_, ?_⟩
      · have := bl y; rw [upN_ne q]; omega
      · have := tl y; rw [upN_ne q]; omega
  · by_cases q : x = xN e
    · subst q; exact ⟨_, upN_same⟩
    · rw [upN_ne q] at hx0 ⊢; exact B.tz x hx0
  · by_cases z : yN d = xN e
    · right; rw [z, upN_same]; omega
    · rcases B.old d hd' with q | q
      · left
        unfold HoldsE at q ⊢
        rw [upN_ne z]
        have := bl (xN d)
        omega
      · right; rw [upN_ne z]; exact q
  · rcases List.mem_append.mp hd' with hd' | hd'
    · exact keep d k (Nat.le_refl _) (B.new d hd')
    · rw [List.mem_singleton] at hd'
      subst hd'
      by_cases z : yN d = xN d
      · right; rw [z, upN_same]; exact Nat.le_refl _
      · left; unfold HoldsE; rw [upN_same, upN_ne z]; exact Int.le_refl _
  · by_cases q : xN e ∈ l
    · obtain ⟨l1, l2, s1, s2, y, h1, h2, h3, h4, h5, h6⟩ := W.split q nd
      rw [upN_same] at h2
      cases h2
      have g1 := (h1.congr (g := f) fun i hi => upN_ne fun z => h5 (z ▸ hi)).tele (b := b) fun x y _ hf => (B.fw x y hf).2.2.2.1
      have g2 := (h3.congr (g := f) fun i hi => upN_ne fun z => h6 (z ▸ hi)).tele (b := b) fun x y _ hf => (B.fw x y hf).2.2.2.1
      rw [hw] at h4
      omega
    · exact B.neg m l s hl nd (W.congr fun i hi => upN_ne fun z => q (z ▸ hi))
  · cases hz; exact ⟨hx, upN_same⟩
  · unfold upN; split
    · exact Nat.le_refl _
    · exact B.tk x
  · cases q
theorem Bf.pass {n k : Nat} {es : List Pk} {b : Nat → Int} {f : Nat → Option Nat} {T : Nat → Nat} {mv : Option Nat} (B : Bf n k es es b f T mv) : Bf n (k + 1) es [] b f T none :=
  ⟨B.fw, B.tz, fun e he => (B.new e he).imp id fun h => by omega, by simp, B.neg, by simp, fun x => by have := B.tk x; omega, by simp⟩
theorem Bf.start {n : Nat} {es : List Pk} : Bf n 1 es [] (fun _ => 0) (fun _ => none) (fun _ => 0) none := by
  refine ⟨by simp, by simp, fun e _ => .inr (by simp), by simp, fun m l s hl _ W => ?_, by simp, by simp, by simp⟩
  cases W with
  | nil => exact absurd rfl hl
  | cons e _ => cases e
/-! ### so many steps back lie on a ring -/
def back (f : Nat → Option Nat) : Nat → Nat → Option Nat
  | 0, z => some z
  | i + 1, z => (back f i z).bind f
theorem back_add (f : Nat → Option Nat) (i : Nat) : ∀ (j z : Nat), back f (i + j) z = (back f i z).bind (back f j)
  | 0, z => by cases h : back f i z <;> simp [back, h]
  | j + 1, z => by
    rw [← Nat.add_assoc, back, back_add f i j z]
    cases h : back f i z <;> simp [back]
theorem back_up {n k k0 : Nat} {es done : List Pk} {b : Nat → Int} {f : Nat → Option Nat} {T : Nat → Nat} {mv : Option Nat} (B : Bf n k es done b f T mv) {z : Nat} (hz : z < n) (ht : k0 ≤ T z) : ∀ i, i ≤ k0 → ∃ x, back f i z = some x ∧ x < n ∧ k0 ≤ T x + i
  | 0, _ => ⟨z, rfl, hz, by omega⟩
  | i + 1, hi => by
    obtain ⟨x, h1, h2, h3⟩ := back_up B hz ht i (by omega)
    obtain ⟨y, hy⟩ := B.tz x (by omega)
    obtain ⟨_, g2, _, _, g5⟩ := B.fw x y hy
    exact ⟨y, by rw [back, h1]; exact hy, g2, by omega⟩
theorem pigeon : ∀ (n : Nat) (g : Nat → Nat), (∀ i, i ≤ n → g i < n) → ∃ i j, i < j ∧ j ≤ n ∧ g i = g j
  | 0, g, h => absurd (h 0 (Nat.le_refl _)) (by omega)
  | n + 1, g, h => by
    by_cases q : ∃ i, i < n + 1 ∧ g i = g (n + 1)
    · obtain ⟨i, h1, h2⟩ := q
      exact ⟨i, n + 1, h1, Nat.le_refl _, h2⟩
    · have q : ∀ i, i < n + 1 → g i ≠ g (n + 1) := fun i hi e => q ⟨i, hi, e⟩
      obtain ⟨i, j, h1, h2, h3⟩ := pigeon n (fun i => if g i < g (n + 1) then g i else g i - 1) fun i hi => by
        have a := h i (by omega)
        have c := h (n + 1) (Nat.le_refl _)
        have d := q i (by omega)
        show (if g i < g (n + 1) then g i else g i - 1) < n
        split <;> omega
      have d1 := q i (by omega)
      have d2 := q j (by omega)
      refine ⟨i, j, h1, by omega, ?_⟩
      have h3 : (if g i < g (n + 1) then g i else g i - 1) = (if g j < g (n + 1) then g j else g j - 1) := h3
      split at h3 <;> split at h3 <;> omega
/-- the follower of m, so many times, is m again -/
theorem on_ring {n : Nat} {f : Nat → Option Nat} {z : Nat} (h : ∀ i, i ≤ n → ∃ x, back f i z = some x ∧ x < n) : ∃ m, back f n z = some m ∧ m < n ∧ ∃ q, 0 < q ∧ q ≤ n ∧ back f q m = some m := by
  have hs : ∀ i, i ≤ n → back f i z = some ((back f i z).getD 0) ∧ (back f i z).getD 0 < n := fun i hi => by
    obtain ⟨x, h1, h2⟩ := h i hi
    rw [h1]
    exact ⟨rfl, h2⟩
  obtain ⟨i, j, h1, h2, h3⟩ := pigeon n (fun i => (back f i z).getD 0) fun i hi => (hs i hi).2
  have ei := (hs i (by omega)).1
  have ej := (hs j h2).1
  have h3 : (back f i z).getD 0 = (back f j z).getD 0 := h3
  have hij : back f (j - i) ((back f i z).getD 0) = some ((back f i z).getD 0) := by
    have := back_add f i (j - i) z
    rw [show i + (j - i) = j by omega, ej, ei] at this
    rw [Option.bind_some] at this
    rw [← this, ← h3]
  obtain ⟨m, hm, hmn⟩ := h n (Nat.le_refl _)
  refine ⟨m, hm, hmn, j - i, by omega, by omega, ?_⟩
  have a : back f (n - i) ((back f i z).getD 0) = some m := by
    have := back_add f i (n - i) z
    rw [show i + (n - i) = n by omega, hm, ei] at this
    rw [Option.bind_some] at this
    exact this.symm
  have c := back_add f (n - i) (j - i) ((back f i z).getD 0)
  have d := back_add f (j - i) (n - i) ((back f i z).getD 0)
  rw [hij, Option.bind_some, a] at d
  rw [a, Option.bind_some] at c
  rw [← c, ← d, Nat.add_comm]

end PF
namespace PF
open PySem L2 PD
local macro_rules | `(tactic| walk_at "pd") => `(tactic| simp only [sOwnT, sPutT, dGet2, dInT, dGetT, sOwnF, sSeqO, sRetO, sParL, sParT, dLenSet, sOwnR, sSet, fMin, fSum, kt_inj, tup_pairI, dEnum, enumD, enumFromD, numD, isTupD, dFldZ, dFldO, sFldD, sFldA, sFldL, sFldApp, sMeth, dMethO, dMethN, nMake, sMakeP, PV.ins.injEq, PV.obj.injEq, fMax, fNotInI, fInI, fNotInX, sRet, sSeq, sIf, sNext, sNever, sAsg, sDrop, sFor, forP, sAug, sApp, sExt, sOwnL, sPar, sRow, dAndV, dOrV, dNotV, dIs, dVar, dC, dChain, dBin, dUn, fNeg, dTest, dTru, dNot, dAnd, dOr, dIf, dCall, dApp, vCons, vNil, vE, vRow, vScr, dCons, dNil, dTup, dLst, dComp, dIter, dRng1, dRng2, dZip, seqD, aName, aTup_tup, aCons, aNil, fIn0, fInt, fAdd, fOrd, fEq, fNe, fIs, fIsNot, isN, fIx_tup, fIx_lst, at0, at1, at2, at3, at_4, eqOk_int, eqv_int, eqOk_bool, eqv_bool, eqOk_str, eqv_str, eqOk_non, eqv_non, eqOk_nil, eqv_nil, decide_true, decide_false,  fLen, fTuple, fList, fAll, fAny, fIntC, truD, frz, startP, wipeP, dYes, dJoin, dIxO, dLenO, dSl, dPart, dNoPart, fSl, sRng1, sOwn2, sPar3O, sOwnN, dTupO, dRevT, dIdx, sExtT, sPar3O, sPop, dTruO, sWhile, sPutK, sOwnK, dict_kd, dInO, dIterR, dListO, dInD, dGetD, dIterD, dEnum, fListD, fListS, dIterS, kd_inj, str_keyD, int_keyD, PV.rng.injEq,
  List.map_cons, List.map_nil, List.length_cons, List.length_nil, List.replicate, List.cons_append, List.nil_append, List.append_nil, List.getElem?_cons_zero, List.getElem?_cons_succ, List.set_cons_zero, List.set_cons_succ, Option.some.injEq, PV.d.injEq, PV.own.injEq, PV.scr.injEq, PyData.int.injEq, PyData.bool.injEq, PyData.list.injEq, PyData.tuple.injEq, PyData.str.injEq, List.cons.injEq, exists_eq_left', exists_eq_left, exists_eq', exists_eq_right', and_assoc, exists_and_left, Nat.zero_add, Nat.add_zero, Nat.reduceAdd, Nat.reduceSub, Nat.reduceLT, Nat.sub_self, ite_true, if_true, if_false, Bool.false_eq_true, ite_false, Bool.not_true, Bool.not_false, Bool.true_and, Bool.and_true, Bool.false_and, Bool.and_false, Bool.true_or, Bool.or_true, Bool.false_or, Bool.or_false, Bool.and_self, true_and, and_true])
local macro_rules | `(tactic| walk_at "pt") => `(tactic| try walk_at "pd")
local macro_rules | `(tactic| walk_at "pp") => `(tactic| (simp only [wr_ix0, wr_ix1, wr_ix2, wr_ix3, wr_ix4, pl_ix0, pl_ix1, pl_ix2, pl_tup, rd_ix0, rd_ix1, rd_tup, lk_ix0, lk_ix1, lk_ix2, lk_tup, cs_ix0, cs_ix1, cs_tup, tr_tup, pr_tup, op_tup] <;> walk_at "pt"))
local macro_rules | `(tactic| walk_at "pq") => `(tactic| try walk_at "pp")
/-! ### rings as data -/
def folD (n : Nat) (f : Nat → Option Nat) : List Dt := (List.range n).map fun i => numD (f i)
def bstD (n : Nat) (b : Nat → Int) : List Dt := (List.range n).map fun i => .int (b i)
def natsD (l : List Nat) : List Dt := l.map fun i => .int (i : Nat)
theorem at_range {n k : Nat} {h : Nat → Dt} (hk : k < n) : atI ((List.range n).map h) (k : Nat) = some (h k) := by
  have := @atI_map _ h (List.range n) k (by simpa using hk)
  simpa using this
theorem ix_range {n k : Nat} {h : Nat → Dt} (hk : k < n) : ixN ((List.range n).map h).length (k : Nat) = some k := by
  unfold ixN
  simp
  omega
theorem set_range {n k : Nat} {h : Nat → Dt} {v : Dt} : ((List.range n).map h).set k v = (List.range n).map fun i => if i = k then v else h i := by
  refine List.ext_getElem (by simp) fun i h1 h2 => ?_
  rw [List.getElem_set]
  simp only [List.getElem_map, List.getElem_range]
  by_cases e : k = i
  · subst e; simp
  · rw [if_neg e, if_neg fun z => e z.symm]
theorem rep_range (n : Nat) (x : Dt) : (List.replicate n [x]).flatten = (List.range n).map fun _ => x := by
  induction n with
  | zero => rfl
  | succ n ih =>
    rw [List.range_succ_eq_map, List.map_cons, List.map_map, List.replicate_succ, List.flatten_cons, ih]
    rfl
/-- a ring of followers from m on -/
structure RingF (f : Nat → Option Nat) (m q : Nat) (g : Nat → Nat) : Prop where
  pos : 0 < q
  st : g 0 = m
  en : g q = m
  go : ∀ i, i < q → f (g i) = some (g (i + 1))
  inj : ∀ i j, i < q → j < q → g i = g j → i = j
theorem back_split {f : Nat → Option Nat} {m q : Nat} (h : ∃ x, back f q m = some x) : ∀ i, i ≤ q → ∃ x, back f i m = some x := by
  induction q with
  | zero => intro i hi; obtain rfl : i = 0 := by omega
            exact h
  | succ q ih =>
    intro i hi
    by_cases e : i = q + 1
    · subst e; exact h
    · refine ih ?_ i (by omega)
      obtain ⟨x, hx⟩ := h
      cases hb : back f q m with
      | none => rw [back, hb] at hx; cases hx
      | some y => exact ⟨y, rfl⟩
theorem least_q {p : Nat → Prop} : ∀ n, p n → ∃ q, q ≤ n ∧ p q ∧ ∀ j, j < q → ¬ p j := by
  intro n
  induction n using Nat.strongRecOn with
  | _ n ih =>
    intro hp
    by_cases h : ∃ j, j < n ∧ p j
    · obtain ⟨j, h1, h2⟩ := h
      obtain ⟨q, h3, h4, h5⟩ := ih j h1 h2
      exact ⟨q, by omega, h4, h5⟩
    · exact ⟨n, Nat.le_refl _, hp, fun j hj hpj => h ⟨j, hj, hpj⟩⟩
theorem ring_ex {f : Nat → Option Nat} {m q : Nat} (hq : 0 < q) (h : back f q m = some m) : ∃ q', q' ≤ q ∧ RingF f m q' fun i => (back f i m).getD 0 := by
  obtain ⟨q', h1, ⟨h2, h3⟩, h4⟩ := least_q (p := fun j => 0 < j ∧ back f j m = some m) q ⟨hq, h⟩
  have hs : ∀ i, i ≤ q' → back f i m = some ((back f i m).getD 0) := fun i hi => by
    obtain ⟨x, hx⟩ := back_split ⟨m, h3⟩ i hi
    rw [hx]; rfl
  have key : ∀ i j, i < j → j < q' → (back f i m).getD 0 ≠ (back f j m).getD 0 := fun i j hij hj e => by
    have a := hs i (by omega)
    have c := hs j (by omega)
    rw [e, ← c] at a
    have x1 := back_add f i (q' - j) m
    have x2 := back_add f j (q' - j) m
    rw [a] at x1
    rw [← x1, show j + (q' - j) = q' by omega, h3] at x2
    exact h4 (i + (q' - j)) (by omega) ⟨by omega, x2.symm⟩
  refine ⟨q', h1, h2, rfl, ?_, fun i hi => ?_, fun i j hi hj e => ?_⟩
  · show (back f q' m).getD 0 = m
    rw [h3]; rfl
  · have c := hs (i + 1) (by omega)
    obtain ⟨x, hx⟩ : ∃ x, back f i m = some x := ⟨_, hs i (by omega)⟩
    have e : back f (i + 1) m = f x := by
      show (back f i m).bind f = _
      rw [hx]
      rfl
    show f ((back f i m).getD 0) = some ((back f (i + 1) m).getD 0)
    rw [hx]
    show f x = _
    rw [← e]
    exact c
  · rcases Nat.lt_trichotomy i j with q | q | q
    · exact absurd e (key i j q hj)
    · exact q
    · exact absurd e.symm (key j i q hi)
def F_ring_from : PF := fun as P => ∃ (n q m : Nat) (f : Nat → Option Nat) (g : Nat → Nat), as = [.d (.list (folD n f)), .d (.int m)] ∧ n ≤ 1000 ∧ q ≤ n ∧ RingF f m q g ∧ (∀ i, i ≤ q → g i < n) ∧ P (.tuple (natsD ((List.range q).map g)))
theorem len_ring_from : ∀ as P, F_ring_from as P → as.length = 2 := by rintro _ P ⟨_, _, _, _, _, rfl, _⟩; rfl
def rd_ring_from : PTS :=
  (sSeq (sOwnL 2 (dCons (dVar 1) dNil))
  (sSeq (sAsg (dBin fIx (dVar 0) (dVar 1)) (aName 3))
  (sSeq (sWhile (dTest (dBin fNe (dVar 3) (dVar 1))) (sSeq (sApp 2 (dVar 3))
  (sAsg (dBin fIx (dVar 0) (dVar 3)) (aName 3))))
  (sRet (dApp fTuple (dCons (dVar 2) dNil))))))

theorem holds_ring_from : ∀ as Q, F_ring_from as Q → rd_ring_from { nx := fun _ => Q .none, rt := Q } (startP ["follows", "first", "found", "event"] as) := by
  rintro _ Q ⟨n, q, m, f, g, rfl, hn, hq, R, hg, p⟩
  have hp := R.pos
  have h1 := R.go 0 hp
  rw [R.st] at h1
  have mn : m < n := by have := hg 0 (by omega); rw [R.st] at this; exact this
  unfold rd_ring_from
  walk_at "pd"
  refine ⟨by decide, _, at_range mn, ?_⟩
  refine ⟨fun k ρ => ∃ i, i + 1 + k = q ∧ ρ = [.d (.list (folD n f)), .d (.int m), .own (.list (natsD ((List.range (i + 1)).map g))), .d (.int (g (i + 1)))], ⟨q - 1, 0, by omega, ?_⟩, ?_⟩
  · rw [h1]
    simp [natsD, numD, R.st, folD]
  rintro k ρ ⟨i, hi, rfl⟩
  have e1 : i + 1 ≤ q := by omega
  walk_at "pd"
  by_cases e : i + 1 = q
  · have e2 : g (i + 1) = m := by rw [e]; exact R.en
    rw [e2, e]
    simp only [decide_true, Bool.not_true, Bool.false_eq_true, if_false]
    exact p
  · have e2 : g (i + 1) ≠ m := fun z => by
      have := R.inj (i + 1) 0 (by omega) hp (by rw [z, R.st])
      omega
    have e3 : decide (((g (i + 1) : Nat) : Int) = (m : Nat)) = false := decide_eq_false (by omega)
    rw [e3]
    simp only [Bool.not_false, if_true]
    refine ⟨fun ρ => ∃ k', k' < k ∧ ∃ i, i + 1 + k' = q ∧ ρ = [.d (.list (folD n f)), .d (.int m), .own (.list (natsD ((List.range (i + 1)).map g))), .d (.int (g (i + 1)))], fun ρ' h => h, ?_⟩
    refine ⟨by unfold natsD; simp only [List.length_map, List.length_range]; rw [line_eq]; omega, ?_⟩
    have h2 := R.go (i + 1) (by omega)
    refine ⟨_, at_range (hg (i + 1) (by omega)), k - 1, by omega, i + 1, by omega, ?_⟩
    rw [h2]
    simp only [numD]
    rw [List.range_succ (n := i + 1), List.map_append]
    unfold natsD
    rw [List.map_append]
    rfl
/-! ### what is promised of a ring -/
def stepSum (es : List Pk) (q : Nat) (g : Nat → Nat) : Int := ((List.range q).map fun i => wtE es (g i) (g (i + 1))).sum
structure RingOk (n : Nat) (es : List Pk) (q : Nat) (g : Nat → Nat) : Prop where
  pos : 0 < q
  few : q ≤ n
  en : g q = g 0
  inj : ∀ i j, i < q → j < q → g i = g j → i = j
  edge : ∀ i, i < q → EdgeE es (g i) (g (i + 1))
  neg : stepSum es q g < 0
theorem way_of {f : Nat → Option Nat} {w : Nat → Nat → Int} {g : Nat → Nat} : ∀ q, (∀ i, i < q → f (g i) = some (g (i + 1))) → Way f w (g 0) ((List.range q).map g) (g q) (((List.range q).map fun i => w (g i) (g (i + 1))).sum)
  | 0, _ => .nil _
  | q + 1, h => by
    have := (way_of q fun i hi => h i (by omega)).snoc (w := w) (h q (by omega))
    rw [List.range_succ, List.map_append, List.map_append, List.sum_append]
    simpa using this
theorem nodup_range {q : Nat} {g : Nat → Nat} (h : ∀ i j, i < q → j < q → g i = g j → i = j) : ((List.range q).map g).Nodup := by
  rw [List.nodup_iff_pairwise_ne, List.pairwise_map]
  refine List.Pairwise.imp_of_mem (R := fun a b => a ≠ b) (fun {a b} ha hb hab e => hab ?_) (List.nodup_iff_pairwise_ne.mp List.nodup_range)
  exact h a b (List.mem_range.mp ha) (List.mem_range.mp hb) e
theorem Bf.ring {n k : Nat} {es done : List Pk} {b : Nat → Int} {f : Nat → Option Nat} {T : Nat → Nat} {mv : Option Nat} (B : Bf n k es done b f T mv) {m q : Nat} {g : Nat → Nat} (hq : q ≤ n) (R : RingF f m q g) : RingOk n es q g := by
  refine ⟨R.pos, hq, by rw [R.en, R.st], R.inj, fun i hi => (B.fw _ _ (R.go i hi)).2.2.1, ?_⟩
  have W := way_of (w := wtE es) q R.go
  rw [R.en, ← R.st] at W
  exact B.neg _ _ _ (by have := R.pos; intro z; have := congrArg List.length z; simp at this; omega) (nodup_range R.inj) W
/-- no ring where all differences hold -/
theorem no_ring {n : Nat} {es : List Pk} (R : RowsIn n es) {b : Nat → Int} (h : ∀ e ∈ es, HoldsE b e) {q : Nat} {g : Nat → Nat} (K : RingOk n es q g) : False := by
  have : ∀ q, (∀ i, i < q → EdgeE es (g i) (g (i + 1))) → b (g 0) ≤ b (g q) + stepSum es q g := fun q => by
    induction q with
    | zero => intro _; simp [stepSum]
    | succ q ih =>
      intro he
      have h1 := ih fun i hi => he i (by omega)
      obtain ⟨e, h2, h3⟩ := List.mem_map.mp (he q (by omega))
      have h4 := h e h2
      have hw := R.wt h2
      have ex : xN e = g q := by unfold xN; rw [h3]; simp
      have ey : yN e = g (q + 1) := by unfold yN; rw [h3]; simp
      unfold HoldsE at h4
      rw [ex, ey] at h4 hw
      have : stepSum es (q + 1) g = stepSum es q g + wtE es (g q) (g (q + 1)) := by
        unfold stepSum
        rw [List.range_succ, List.map_append, List.sum_append]
        simp
      omega
  have h1 := this q K.edge
  have h2 := K.neg
  rw [K.en] at h1
  omega

end PF
namespace PF
open PySem L2 PD
local macro_rules | `(tactic| walk_at "pd") => `(tactic| simp only [sOwnT, sPutT, dGet2, dInT, dGetT, sOwnF, sSeqO, sRetO, sParL, sParT, dLenSet, sOwnR, sSet, fMin, fSum, kt_inj, tup_pairI, dEnum, enumD, enumFromD, numD, isTupD, dFldZ, dFldO, sFldD, sFldA, sFldL, sFldApp, sMeth, dMethO, dMethN, nMake, sMakeP, PV.ins.injEq, PV.obj.injEq, fMax, fNotInI, fInI, fNotInX, sRet, sSeq, sIf, sNext, sNever, sAsg, sDrop, sFor, forP, sAug, sApp, sExt, sOwnL, sPar, sRow, dAndV, dOrV, dNotV, dIs, dVar, dC, dChain, dBin, dUn, fNeg, dTest, dTru, dNot, dAnd, dOr, dIf, dCall, dApp, vCons, vNil, vE, vRow, vScr, dCons, dNil, dTup, dLst, dComp, dIter, dRng1, dRng2, dZip, seqD, aName, aTup_tup, aCons, aNil, fIn0, fInt, fAdd, fOrd, fEq, fNe, fIs, fIsNot, isN, fIx_tup, fIx_lst, at0, at1, at2, at3, at_4, eqOk_int, eqv_int, eqOk_bool, eqv_bool, eqOk_str, eqv_str, eqOk_non, eqv_non, eqOk_nil, eqv_nil, decide_true, decide_false,  fLen, fTuple, fList, fAll, fAny, fIntC, truD, frz, startP, wipeP, dYes, dJoin, dIxO, dLenO, dSl, dPart, dNoPart, fSl, sRng1, sOwn2, sPar3O, sOwnN, dTupO, dRevT, dIdx, sExtT, sPar3O, sPop, dTruO, sWhile, sPutK, sOwnK, dict_kd, dInO, dIterR, dListO, dInD, dGetD, dIterD, dEnum, fListD, fListS, dIterS, kd_inj, str_keyD, int_keyD, PV.rng.injEq,
  List.map_cons, List.map_nil, List.length_cons, List.length_nil, List.replicate, List.cons_append, List.nil_append, List.append_nil, List.getElem?_cons_zero, List.getElem?_cons_succ, List.set_cons_zero, List.set_cons_succ, Option.some.injEq, PV.d.injEq, PV.own.injEq, PV.scr.injEq, PyData.int.injEq, PyData.bool.injEq, PyData.list.injEq, PyData.tuple.injEq, PyData.str.injEq, List.cons.injEq, exists_eq_left', exists_eq_left, exists_eq', exists_eq_right', and_assoc, exists_and_left, Nat.zero_add, Nat.add_zero, Nat.reduceAdd, Nat.reduceSub, Nat.reduceLT, Nat.sub_self, ite_true, if_true, if_false, Bool.false_eq_true, ite_false, Bool.not_true, Bool.not_false, Bool.true_and, Bool.and_true, Bool.false_and, Bool.and_false, Bool.true_or, Bool.or_true, Bool.false_or, Bool.or_false, Bool.and_self, true_and, and_true])
local macro_rules | `(tactic| walk_at "pt") => `(tactic| try walk_at "pd")
local macro_rules | `(tactic| walk_at "pp") => `(tactic| (simp only [wr_ix0, wr_ix1, wr_ix2, wr_ix3, wr_ix4, pl_ix0, pl_ix1, pl_ix2, pl_tup, rd_ix0, rd_ix1, rd_tup, lk_ix0, lk_ix1, lk_ix2, lk_tup, cs_ix0, cs_ix1, cs_tup, tr_tup, pr_tup, op_tup] <;> walk_at "pt"))
local macro_rules | `(tactic| walk_at "pq") => `(tactic| try walk_at "pp")
def nrTurn : PTS := (sIf (dTest (dBin fLt (dBin fAdd (dIxO 2 (dVar 7)) (dVar 8)) (dIxO 2 (dVar 6)))) (sSeq (sSet 2 (dVar 6) (dBin fAdd (dIxO 2 (dVar 7)) (dVar 8)))
  (sSeq (sSet 3 (dVar 6) (dVar 7))
  (sAsg (dVar 6) (aName 4)))) sNext)
theorem go_nr (Q : PEnds) (n k : Nat) (es : List Pk) (R : RowsIn n es) (hk : 1 ≤ k) (d1 : Dt) (x5 : PV) : ∀ (rest done : List Pk) (b : Nat → Int) (f : Nat → Option Nat) (T : Nat → Nat) (mv : Option Nat) (x6 x7 x8 : PV), done ++ rest = es → Bf n k es done b f T mv →
    (∀ b f T mv x6 x7 x8, Bf n k es es b f T mv → Q.nx [.d (.int n), .d d1, .own (.list (bstD n b)), .own (.list (folD n f)), .d (numD mv), x5, x6, x7, x8]) →
    forP (aTup 3 (aCons (aName 6) (aCons (aName 7) (aCons (aName 8) aNil)))) nrTurn Q (rest.map fun e => rowI (rowP3 e)) [.d (.int n), .d d1, .own (.list (bstD n b)), .own (.list (folD n f)), .d (numD mv), x5, x6, x7, x8]
  | [], done, b, f, T, mv, x6, x7, x8, he, B, q => by
    rw [List.append_nil] at he
    subst he
    exact q b f T mv x6 x7 x8 B
  | e :: rest, done, b, f, T, mv, x6, x7, x8, he, B, q => by
    have hm : e ∈ es := by rw [← he]; simp
    have hd : ∀ d ∈ done, d ∈ es := fun d h => by rw [← he]; exact List.mem_append_left _ h
    obtain ⟨ex, hx, ey, hy⟩ := R.x hm
    have ih := fun b f T mv x6 x7 x8 B => go_nr Q n k es R hk d1 x5 rest (done ++ [e]) b f T mv x6 x7 x8 (by rw [← he]; simp) B q
    rw [List.map_cons, rowI_rowP3]
    unfold nrTurn at ih ⊢
    rw [← ex, ← ey]
    walk_at "pd"
    unfold bstD at ih ⊢
    refine ⟨_, at_range hy, ?_⟩
    walk_at "pt"
    refine ⟨_, at_range hx, ?_⟩
    walk_at "pt"
    refine ite_b (fun h => ?_) fun h => ?_
    · have h := of_decide_eq_true h
      refine ⟨_, at_range hy, ?_⟩
      walk_at "pt"
      refine ⟨_, ix_range hx, ?_⟩
      rw [set_range]
      walk_at "pt"
      unfold folD at ih ⊢
      refine ⟨_, ix_range hx, ?_⟩
      rw [set_range]
      have := ih _ _ _ _ (.d (.int (xN e))) (.d (.int (yN e))) (.d (.int e.2)) (B.move R hk hd hm h)
      unfold upN at this
      have e1 : ∀ i, (PyData.int (if i = xN e then b (yN e) + e.2 else b i)) = if i = xN e then PyData.int (b (yN e) + e.2) else .int (b i) := fun i => by split <;> rfl
      have e2 : ∀ i, (numD (if i = xN e then some (yN e) else f i)) = if i = xN e then PyData.int (yN e : Nat) else numD (f i) := fun i => by split <;> rfl
      simp only [e1, e2] at this
      exact this
    · have h := of_decide_eq_false h
      exact ih _ _ _ _ _ _ _ (B.stay h)
theorem go_np (Q : PEnds) (t : PTS) (n : Nat) (es : List Pk) (R : RowsIn n es) (hz : es.length ≤ 1000) (qn : (∃ b, ∀ e ∈ es, HoldsE b e) → Q.rt .none) : ∀ (xs : List Dt) (k : Nat) (b : Nat → Int) (f : Nat → Option Nat) (T : Nat → Nat) (mv : Option Nat) (x5 x6 x7 x8 : PV), k + xs.length = n → Bf n (k + 1) es [] b f T none → (k = 0 ∨ ∃ z, mv = some z ∧ z < n ∧ k ≤ T z) →
    (∀ b f T mv x5 x6 x7 x8, Bf n (n + 1) es [] b f T none → (n = 0 ∨ ∃ z, mv = some z ∧ z < n ∧ n ≤ T z) → t Q [.d (.int n), .d (pksD es), .own (.list (bstD n b)), .own (.list (folD n f)), .d (numD mv), x5, x6, x7, x8]) →
    forP (aName 5) (sSeq (sAsg (dC .none) (aName 4)) (sSeq (sFor (dIter (dVar 1)) (aTup 3 (aCons (aName 6) (aCons (aName 7) (aCons (aName 8) aNil)))) nrTurn) (sIf (dTest (dBin fIs (dVar 4) (dC .none))) (sRet (dC .none)) sNext))) { Q with nx := t Q } xs [.d (.int n), .d (pksD es), .own (.list (bstD n b)), .own (.list (folD n f)), .d (numD mv), x5, x6, x7, x8]
  | [], k, b, f, T, mv, x5, x6, x7, x8, hk, B, hm, q => by
    simp only [List.length_nil, Nat.add_zero] at hk
    subst hk
    exact q b f T mv x5 x6 x7 x8 B hm
  | x :: xs, k, b, f, T, mv, x5, x6, x7, x8, hk, B, hm, q => by
    rw [List.length_cons] at hk
    have ih := fun b f T mv x5 x6 x7 x8 B hm => go_np Q t n es R hz qn xs (k + 1) b f T mv x5 x6 x7 x8 (by omega) B hm q
    have mid := fun Q' q' x6 x7 x8 => go_nr Q' n (k + 1) es R (by omega) (pksD es) (.d x) es [] b f T none x6 x7 x8 (by simp) B q'
    generalize nrTurn = N at ih mid ⊢
    unfold pksD at ih mid ⊢
    walk_at "pd"
    refine fun _ => mid _ (fun b' f' T' mv' y6 y7 y8 B' => ?_) _ _ _
    walk_at "pt"
    cases mv' with
    | none =>
      simp only [numD]
      walk_at "pt"
      exact qn ⟨b', B'.nm rfl⟩
    | some z =>
      simp only [numD]
      walk_at "pt"
      obtain ⟨z1, z2⟩ := B'.mz z rfl
      have := ih b' f' T' (some z) (.d x) y6 y7 y8 B'.pass (.inr ⟨z, rfl, z1, by omega⟩)
      simp only [numD] at this
      exact this
theorem go_bk (Q : PEnds) (t : PTS) (n : Nat) (f : Nat → Option Nat) (d0 d1 d2 : PV) (z : Nat) (x6 x7 x8 : PV) (hb : ∀ i, i ≤ n → ∃ x, back f i z = some x ∧ x < n) : ∀ (xs : List Dt) (i y : Nat) (x5 : PV), i + xs.length = n → back f i z = some y →
    (∀ m x5, back f n z = some m → t Q [d0, d1, d2, .own (.list (folD n f)), .d (.int m), x5, x6, x7, x8]) →
    forP (aName 5) (sAsg (dIxO 3 (dVar 4)) (aName 4)) { Q with nx := t Q } xs [d0, d1, d2, .own (.list (folD n f)), .d (.int y), x5, x6, x7, x8]
  | [], i, y, x5, hi, h, q => by
    simp only [List.length_nil, Nat.add_zero] at hi
    subst hi
    exact q y x5 h
  | x :: xs, i, y, x5, hi, h, q => by
    rw [List.length_cons] at hi
    obtain ⟨w, h1, h2⟩ := hb (i + 1) (by omega)
    obtain ⟨y', h3, h4⟩ := hb i (by omega)
    rw [h] at h3
    cases h3
    have e : f y = some w := by
      have : back f (i + 1) z = f y := by
        show (back f i z).bind f = _
        rw [h]; rfl
      rw [← this]; exact h1
    have ih := go_bk Q t n f d0 d1 d2 z x6 x7 x8 hb xs (i + 1) w
    walk_at "pd"
    refine ⟨_, at_range h4, ?_⟩
    rw [e]
    exact ih _ (by omega) h1 q
def F_negative_ring : PF := fun as P => ∃ (n : Nat) (es : List Pk), as = [.d (.int n), .d (pksD es)] ∧ (1 ≤ n ∧ n ≤ 1000) ∧ es.length ≤ 1000 ∧ RowsIn n es ∧ ((∃ b, ∀ e ∈ es, HoldsE b e) → P .none) ∧ ∀ q g, RingOk n es q g → P (.tuple (natsD ((List.range q).map g)))
theorem len_negative_ring : ∀ as P, F_negative_ring as P → as.length = 2 := by rintro _ P ⟨_, _, rfl, _⟩; rfl
def rd_negative_ring : PTS :=
  (sSeq (sOwnR 2 (dCons (dC (.int 0)) dNil) (dVar 0))
  (sSeq (sOwnR 3 (dCons (dC .none) dNil) (dVar 0))
  (sSeq (sAsg (dC .none) (aName 4))
  (sSeq (sFor (dRng1 (dCons (dVar 0) dNil)) (aName 5) (sSeq (sAsg (dC .none) (aName 4))
  (sSeq (sFor (dIter (dVar 1)) (aTup 3 (aCons (aName 6) (aCons (aName 7) (aCons (aName 8) aNil)))) (sIf (dTest (dBin fLt (dBin fAdd (dIxO 2 (dVar 7)) (dVar 8)) (dIxO 2 (dVar 6)))) (sSeq (sSet 2 (dVar 6) (dBin fAdd (dIxO 2 (dVar 7)) (dVar 8)))
  (sSeq (sSet 3 (dVar 6) (dVar 7))
  (sAsg (dVar 6) (aName 4)))) sNext))
  (sIf (dTest (dBin fIs (dVar 4) (dC .none))) (sRet (dC .none)) sNext))))
  (sSeq (sFor (dRng1 (dCons (dVar 0) dNil)) (aName 5) (sAsg (dIxO 3 (dVar 4)) (aName 4)))
  (sRet (dCall F_ring_from (vCons (vE (dVar 3)) (vCons (vE (dVar 4)) vNil)))))))))

theorem holds_negative_ring : ∀ as Q, F_negative_ring as Q → rd_negative_ring { nx := fun _ => Q .none, rt := Q } (startP ["events", "told", "bests", "follows", "moved", "_", "x", "y", "c"] as) := by
  rintro _ Q ⟨n, es, rfl, ⟨hn1, hn⟩, hz, R, qn, qr⟩
  have key := fun x5 x6 x7 x8 => go_np { nx := fun _ => Q .none, rt := Q } (sSeq (sFor (dRng1 (dCons (dVar 0) dNil)) (aName 5) (sAsg (dIxO 3 (dVar 4)) (aName 4)))
  (sRet (dCall F_ring_from (vCons (vE (dVar 3)) (vCons (vE (dVar 4)) vNil))))) n es R hz qn ((List.range n).map fun i => .int (i : Nat)) 0 (fun _ => 0) (fun _ => none) (fun _ => 0) none x5 x6 x7 x8 (by simp) Bf.start (.inl rfl) fun b f T mv y5 y6 y7 y8 B hm => by
    obtain ⟨z, rfl, hz1, hz2⟩ := hm.resolve_left (by omega)
    have hb := back_up B hz1 hz2
    have hb' : ∀ i, i ≤ n → ∃ x, back f i z = some x ∧ x < n := fun i hi => by
      obtain ⟨x, h1, h2, _⟩ := hb i hi
      exact ⟨x, h1, h2⟩
    obtain ⟨m, hm1, hm2, q0, hq1, hq2, hq3⟩ := on_ring hb'
    obtain ⟨q, hq4, RF⟩ := ring_ex hq1 hq3
    have fin := fun x5 => go_bk { nx := fun _ => Q .none, rt := Q } (sRet (dCall F_ring_from (vCons (vE (dVar 3)) (vCons (vE (dVar 4)) vNil)))) n f (.d (.int n)) (.d (pksD es)) (.own (.list (bstD n b))) z y6 y7 y8 hb' ((List.range n).map fun i => .int (i : Nat)) 0 z x5 (by simp) rfl fun m' x5 hm' => by
      rw [hm1] at hm'
      cases hm'
      walk_at "pd"
      refine ⟨n, q, m, f, _, rfl, hn, by omega, RF, fun i hi => ?_, qr _ _ (B.ring (by omega) RF)⟩
      by_cases e : i = q
      · subst e
        have e2 : (back f i m).getD 0 = m := RF.en
        show (back f i m).getD 0 < n
        rw [e2]; exact hm2
      · exact (B.fw _ _ (RF.go i (by omega))).1
    generalize (sRet _ : PTS) = T3 at fin ⊢
    simp only [numD]
    walk_at "pd"
    refine ⟨by omega, by omega, fun _ => ?_⟩
    rw [show ((n : Nat) : Int).toNat = n by omega, rangeD_nat]
    exact fin _
  show sSeq _ (sSeq _ (sSeq _ (sSeq (sFor _ _ (sSeq _ (sSeq (sFor _ _ nrTurn) _))) _))) _ _
  generalize nrTurn = N at key ⊢
  generalize (sSeq (sFor (dRng1 (dCons (dVar 0) dNil)) (aName 5) (sAsg (dIxO 3 (dVar 4)) (aName 4)))
  (sRet (dCall F_ring_from (vCons (vE (dVar 3)) (vCons (vE (dVar 4)) vNil)))) : PTS) = T3 at key ⊢
  walk_at "pd"
  have e1 : (List.replicate ((n : Nat) : Int).toNat [PyData.int 0]).flatten = bstD n (fun _ => 0) := by rw [show ((n : Nat) : Int).toNat = n by omega, rep_range]; rfl
  have e2 : (List.replicate ((n : Nat) : Int).toNat [PyData.none]).flatten = folD n (fun _ => none) := by rw [show ((n : Nat) : Int).toNat = n by omega, rep_range]; rfl
  rw [e1, e2]
  refine ⟨by decide, by omega, by omega, by rw [line_eq]; omega, by decide, by omega, by omega, by rw [line_eq]; omega, by omega, by omega, fun _ => ?_⟩
  rw [show ((n : Nat) : Int).toNat = n by omega, rangeD_nat]
  exact key _ _ _ _

end PF
namespace PF
open PySem L2 PD
local macro_rules | `(tactic| walk_at "pd") => `(tactic| simp only [sOwnT, sPutT, dGet2, dInT, dGetT, sOwnF, sSeqO, sRetO, sParL, sParT, dLenSet, sOwnR, sSet, fMin, fSum, kt_inj, tup_pairI, dEnum, enumD, enumFromD, numD, isTupD, dFldZ, dFldO, sFldD, sFldA, sFldL, sFldApp, sMeth, dMethO, dMethN, nMake, sMakeP, PV.ins.injEq, PV.obj.injEq, fMax, fNotInI, fInI, fNotInX, sRet, sSeq, sIf, sNext, sNever, sAsg, sDrop, sFor, forP, sAug, sApp, sExt, sOwnL, sPar, sRow, dAndV, dOrV, dNotV, dIs, dVar, dC, dChain, dBin, dUn, fNeg, dTest, dTru, dNot, dAnd, dOr, dIf, dCall, dApp, vCons, vNil, vE, vRow, vScr, dCons, dNil, dTup, dLst, dComp, dIter, dRng1, dRng2, dZip, seqD, aName, aTup_tup, aCons, aNil, fIn0, fInt, fAdd, fOrd, fEq, fNe, fIs, fIsNot, isN, fIx_tup, fIx_lst, at0, at1, at2, at3, at_4, eqOk_int, eqv_int, eqOk_bool, eqv_bool, eqOk_str, eqv_str, eqOk_non, eqv_non, eqOk_nil, eqv_nil, decide_true, decide_false,  fLen, fTuple, fList, fAll, fAny, fIntC, truD, frz, startP, wipeP, dYes, dJoin, dIxO, dLenO, dSl, dPart, dNoPart, fSl, sRng1, sOwn2, sPar3O, sOwnN, dTupO, dRevT, dIdx, sExtT, sPar3O, sPop, dTruO, sWhile, sPutK, sOwnK, dict_kd, dInO, dIterR, dListO, dInD, dGetD, dIterD, dEnum, fListD, fListS, dIterS, kd_inj, str_keyD, int_keyD, PV.rng.injEq,
  List.map_cons, List.map_nil, List.length_cons, List.length_nil, List.replicate, List.cons_append, List.nil_append, List.append_nil, List.getElem?_cons_zero, List.getElem?_cons_succ, List.set_cons_zero, List.set_cons_succ, Option.some.injEq, PV.d.injEq, PV.own.injEq, PV.scr.injEq, PyData.int.injEq, PyData.bool.injEq, PyData.list.injEq, PyData.tuple.injEq, PyData.str.injEq, List.cons.injEq, exists_eq_left', exists_eq_left, exists_eq', exists_eq_right', and_assoc, exists_and_left, Nat.zero_add, Nat.add_zero, Nat.reduceAdd, Nat.reduceSub, Nat.reduceLT, Nat.sub_self, ite_true, if_true, if_false, Bool.false_eq_true, ite_false, Bool.not_true, Bool.not_false, Bool.true_and, Bool.and_true, Bool.false_and, Bool.and_false, Bool.true_or, Bool.or_true, Bool.false_or, Bool.or_false, Bool.and_self, true_and, and_true])
local macro_rules | `(tactic| walk_at "pt") => `(tactic| try walk_at "pd")
local macro_rules | `(tactic| walk_at "pp") => `(tactic| (simp only [wr_ix0, wr_ix1, wr_ix2, wr_ix3, wr_ix4, pl_ix0, pl_ix1, pl_ix2, pl_tup, rd_ix0, rd_ix1, rd_tup, lk_ix0, lk_ix1, lk_ix2, lk_tup, cs_ix0, cs_ix1, cs_tup, tr_tup, pr_tup, op_tup] <;> walk_at "pt"))
local macro_rules | `(tactic| walk_at "pq") => `(tactic| try walk_at "pp")
/-! ### data compared -/
theorem eqv_num (a b : Option Nat) : PyData.eqv (numD a) (numD b) = decide (a = b) := by
  cases a with
  | none => cases b <;> simp [numD, PyData.eqv]
  | some x => cases b with
    | none => simp [numD, PyData.eqv]
    | some y =>
      simp only [numD, PyData.eqv]
      rw [Bool.eq_iff_iff, beq_iff_eq, decide_eq_true_eq]
      constructor
      · intro h; congr 1; omega
      · intro h; cases h; rfl
theorem eqv_case (a b : Case) : PyData.eqv (caseD a) (caseD b) = decide (a = b) := by
  unfold caseD
  simp only [PyData.eqv, PyData.eqvAll, eqv_num, Bool.and_true]
  rw [Bool.eq_iff_iff]
  simp only [Bool.and_eq_true, decide_eq_true_eq, beq_iff_eq]
  constructor
  · rintro ⟨h1, h2⟩
    exact Prod.ext (by omega) h2
  · rintro rfl
    exact ⟨rfl, rfl⟩
theorem eqv_cases : ∀ xs ys : List Case, PyData.eqvAll (xs.map caseD) (ys.map caseD) = decide (xs = ys)
  | [], [] => by simp [PyData.eqvAll]
  | [], _ :: _ => by simp [PyData.eqvAll]
  | _ :: _, [] => by simp [PyData.eqvAll]
  | x :: xs, y :: ys => by
    rw [List.map_cons, List.map_cons, PyData.eqvAll, eqv_cases xs ys, eqv_case, Bool.eq_iff_iff]
    simp
theorem lay_num (a : Option Nat) : PyData.canLay0 (numD a) = true ∧ PyData.depth (numD a) = 0 := by
  cases a <;> simp [numD, PyData.canLay0, PyData.depth]
theorem lay_case (a : Case) : PyData.canLay0 (caseD a) = true ∧ PyData.depth (caseD a) = 1 := by
  obtain ⟨h1, h2⟩ := lay_num a.2
  unfold caseD
  constructor
  · simp [PyData.canLay0, PyData.canLayAll0, h1]
  · simp [PyData.depth, PyData.depthAll, h2]
theorem lay_cases : ∀ xs : List Case, PyData.canLayAll0 (xs.map caseD) = true ∧ PyData.depthAll (xs.map caseD) ≤ 1
  | [] => by simp [PyData.canLayAll0, PyData.depthAll]
  | x :: xs => by
    obtain ⟨h1, h2⟩ := lay_cases xs
    obtain ⟨h3, h4⟩ := lay_case x
    rw [List.map_cons, PyData.canLayAll0, PyData.depthAll, h1, h3, h4]
    exact ⟨rfl, by omega⟩
theorem eqOk_cases (xs ys : List Case) : eqOk (.list (xs.map caseD)) (.list (ys.map caseD)) = true := by
  obtain ⟨h1, h2⟩ := lay_cases xs
  obtain ⟨h3, h4⟩ := lay_cases ys
  simp only [eqOk, SeqAt.shaped, PyData.canLay0, PyData.depth, h1, h3, Bool.true_and, Bool.and_eq_true, decide_eq_true_eq]
  exact ⟨decide_eq_true (by omega), decide_eq_true (by omega)⟩
theorem lay_intsA : ∀ l : List Int, PyData.canLayAll0 (l.map PyData.int) = true ∧ PyData.depthAll (l.map PyData.int) = 0
  | [] => by simp [PyData.canLayAll0, PyData.depthAll]
  | z :: l => by
    obtain ⟨h1, h2⟩ := lay_intsA l
    rw [List.map_cons, PyData.canLayAll0, PyData.depthAll, h1, h2, PyData.canLay0, PyData.depth]
    simp
theorem eqv_intsA : ∀ l : List Int, PyData.eqvAll (l.map PyData.int) (l.map PyData.int) = true
  | [] => by simp [PyData.eqvAll]
  | z :: l => by rw [List.map_cons, PyData.eqvAll, eqv_intsA l, eqv_int, decide_eq_true rfl]; rfl
theorem eqv_intsE (l : List Int) : PyData.eqv (.list (l.map PyData.int)) (.list []) = l.isEmpty := by
  cases l <;> simp [PyData.eqv, PyData.eqvAll]
theorem eqOk_intsE (l : List Int) : eqOk (.list (l.map PyData.int)) (.list []) = true := by
  obtain ⟨h1, h2⟩ := lay_intsA l
  simp [eqOk, SeqAt.shaped, PyData.canLay0, PyData.depth, h1, h2, PyData.canLayAll0, PyData.depthAll]
theorem lay_rows : ∀ xs : List (List Int), PyData.canLayAll0 (xs.map rowI) = true ∧ PyData.depthAll (xs.map rowI) ≤ 1 ∧ PyData.eqvAll (xs.map rowI) (xs.map rowI) = true
  | [] => by simp [PyData.canLayAll0, PyData.depthAll, PyData.eqvAll]
  | x :: xs => by
    obtain ⟨h1, h2, h5⟩ := lay_rows xs
    obtain ⟨h3, h4⟩ := lay_intsA x
    have e : rowI x = .tuple (x.map .int) := rfl
    rw [List.map_cons, PyData.canLayAll0, PyData.depthAll, PyData.eqvAll, h1, h5, e, PyData.canLay0, PyData.depth, PyData.eqv, h3, h4, eqv_intsA]
    exact ⟨rfl, by omega, rfl⟩
theorem eqOk_rows (xs : List (List Int)) : eqOk (.list (xs.map rowI)) (.list (xs.map rowI)) = true := by
  obtain ⟨h1, h2, _⟩ := lay_rows xs
  simp only [eqOk, SeqAt.shaped, PyData.canLay0, PyData.depth, h1, Bool.true_and, Bool.and_eq_true, decide_eq_true_eq]
  exact ⟨decide_eq_true (by omega), decide_eq_true (by omega)⟩
theorem eqv_rows (xs : List (List Int)) : PyData.eqv (.list (xs.map rowI)) (.list (xs.map rowI)) = true := by
  rw [PyData.eqv]
  exact (lay_rows xs).2.2
/-! ### the law's case -/
def lawSeen (p : Plan) (ts : List Int) (c τ : Int) (k : Nat) : Bool := decide (p.cell k = c) && decide (τ < ts.getD k 0 + p.stay k)
def lawCase (p : Plan) (ts : List Int) (c τ : Int) : Case := ((ts.filter fun x => decide (x ≤ τ)).length, ((List.range (ts.filter fun x => decide (x ≤ τ)).length).filter (lawSeen p ts c τ)).getLast?)
def F__law_case : PF := fun as P => ∃ (p : Plan) (ts : List Int) (c τ : Int), as = [.d p.d, .d (.list (ts.map .int)), .d (.int c), .d (.int τ)] ∧ p.inks ∧ ts.length = p.writes.length ∧ p.writes.length ≤ 1000 ∧ P (caseD (lawCase p ts c τ))
theorem len__law_case : ∀ as P, F__law_case as P → as.length = 4 := by rintro _ P ⟨_, _, _, _, rfl, _⟩; rfl
theorem at_last {xs : List Dt} (h : 0 < xs.length) : atI xs (-1) = xs.getLast? := by
  unfold atI ixN
  rw [List.getLast?_eq_getElem?]
  rw [if_neg (by decide), if_pos (by omega)]
  show xs[(-1 + (xs.length : Int)).toNat]? = _
  congr 1
  omega
theorem last_map {α : Type} (f : α → Dt) (l : List α) : (l.map f).getLast? = l.getLast?.map f := by
  rw [List.getLast?_map]
def rd__law_case : PTS :=
  (sSeq (sAsg (dApp fLen (dCons (dComp (dIter (dVar 1)) (aName 7) (dTest (dBin fLe (dVar 7) (dVar 3))) (dC (.int 1)) [7]) dNil)) (aName 4))
  (sSeq (sAsg (dComp (dRng1 (dCons (dVar 4) dNil)) (aName 6) (dAnd (dTest (dBin fEq (dBin fIx (dBin fIx (dBin fIx (dVar 0) (dC (.int 2))) (dVar 6)) (dC (.int 0))) (dVar 2))) (dTest (dBin fLt (dVar 3) (dBin fAdd (dBin fIx (dVar 1) (dVar 6)) (dBin fIx (dBin fIx (dVar 0) (dC (.int 1))) (dBin fIx (dBin fIx (dBin fIx (dVar 0) (dC (.int 2))) (dVar 6)) (dC (.int 2)))))))) (dVar 6) [6]) (aName 5))
  (sRet (dTup (dCons (dVar 4) (dCons (dIf (dTest (dBin fNe (dVar 5) (dLst dNil))) (dBin fIx (dVar 5) (dUn fNeg (dC (.int 1)))) (dC .none)) dNil))))))

theorem holds__law_case : ∀ as Q, F__law_case as Q → rd__law_case { nx := fun _ => Q .none, rt := Q } (startP ["plan", "told", "cell", "tick", "done", "there", "at", "one"] as) := by
  rintro _ Q ⟨p, ts, c, τ, rfl, hi, hl, hn, q⟩
  unfold rd__law_case
  walk_at "pd"
  intro _
  refine lcP_encf (fun x : Int => .int x) (fun _ => .int 1) (fun x => decide (x ≤ τ)) _ _ (fun x hx Pt Pf h => ?_) ?_
  · walk_at "pt"
    exact h
  have hd : (ts.filter fun x => decide (x ≤ τ)).length ≤ ts.length := List.length_filter_le _ _
  unfold lawCase at q
  generalize (ts.filter fun x => decide (x ≤ τ)) = ds at hd q ⊢
  walk_at "pt"
  rw [List.length_map]
  refine ⟨by omega, by omega, fun _ => ?_⟩
  rw [show ((ds.length : Nat) : Int).toNat = ds.length by omega, rangeD_nat]
  refine lcP_encf (fun i : Nat => .int (i : Nat)) (fun i : Nat => .int (i : Nat)) (lawSeen p ts c τ) _ _ (fun k hk Pt Pf h => ?_) ?_
  · have hk := List.mem_range.mp hk
    have hkp : k < p.writes.length := by omega
    have hw := hi _ (Plan.at_mem hkp)
    unfold lawSeen at h
    walk_at "pt"
    walk_at "pq"
    refine wr_atF hkp ?_
    walk_at "pq"
    rw [show (p.at k).cell = p.cell k from rfl]
    by_cases e : p.cell k = c
    · rw [decide_eq_true e, Bool.true_and] at h
      rw [decide_eq_true e]
      walk_at "pt"
      refine ⟨_, getD_at (by omega) (by omega), ?_⟩
      walk_at "pq"
      refine wr_atF hkp ?_
      walk_at "pq"
      refine ⟨_, getD_at hw.1 hw.2, ?_⟩
      rw [show ((k : Nat) : Int).toNat = k by omega]
      walk_at "pt"
      exact h
    · rw [decide_eq_false e, Bool.false_and] at h
      rw [decide_eq_false e]
      walk_at "pt"
      exact h
  · generalize (List.range ds.length).filter (lawSeen p ts c τ) = ks at q ⊢
    walk_at "pt"
    have e1 : (ks.map fun i : Nat => PyData.int (i : Nat)) = (ks.map fun i : Nat => (i : Int)).map PyData.int := by rw [List.map_map]; rfl
    rw [e1]
    refine ⟨by decide, eqOk_intsE _, ?_⟩
    rw [eqv_intsE]
    cases hks : ks with
    | nil =>
      rw [hks] at q
      walk_at "pt"
      exact ⟨by decide, by simpa [caseD, numD] using q⟩
    | cons k0 ks0 =>
      rw [← hks]
      have hne : 0 < ks.length := by rw [hks]; simp
      have he : (ks.map fun i : Nat => (i : Int)).isEmpty = false := by rw [hks]; rfl
      rw [he]
      obtain ⟨k, hk⟩ : ∃ k, ks.getLast? = some k := by
        cases hg : ks.getLast? with
        | none => rw [List.getLast?_eq_none_iff] at hg; rw [hg] at hne; simp at hne
        | some k => exact ⟨k, rfl⟩
      rw [hk] at q
      walk_at "pt"
      refine ⟨.int k, ?_, ?_⟩
      · rw [at_last (by simpa using hne), ← e1, last_map, hk]; rfl
      · exact ⟨by decide, by simpa [caseD, numD] using q⟩
theorem filter_lt : ∀ (m d : Nat), d ≤ m → ((List.range m).filter fun i => decide (i < d)).length = d
  | 0, d, h => by obtain rfl : d = 0 := by omega
                  rfl
  | m + 1, d, h => by
    rw [List.range_succ, List.filter_append, List.length_append]
    by_cases e : d = m + 1
    · subst e
      have : (List.range m).filter (fun i => decide (i < m + 1)) = List.range m := List.filter_eq_self.mpr fun i hi => by have := List.mem_range.mp hi; simp; omega
      rw [this]
      simp
    · rw [filter_lt m d (by omega)]
      have : ¬ m < d := by omega
      simp [this]
theorem last_range {pr : Nat → Bool} {d k : Nat} (hk : k < d) (h1 : pr k = true) (h2 : ∀ j, k < j → j < d → pr j = false) : ((List.range d).filter pr).getLast? = some k := by
  induction d with
  | zero => omega
  | succ d ih =>
    rw [List.range_succ, List.filter_append]
    by_cases e : k = d
    · subst e
      simp [h1]
    · have := h2 d (by omega) (by omega)
      simp only [List.filter_cons, List.filter_nil, this, Bool.false_eq_true, if_false, List.append_nil]
      exact ih (by omega) fun j h3 h4 => h2 j h3 (by omega)
theorem law_case_sat {p : Plan} {t : Nat → Int} {c τ : Int} (M : Mono p.writes.length t) {cs : Case} : lawCase p (tickL p t) c τ = cs ↔ CaseSat p.cell p.stay p.writes.length t c τ cs.1 cs.2 := by
  obtain ⟨d, s, h⟩ := case_ex (cell := p.cell) (stay := p.stay) (c := c) (τ := τ) M
  have hd := h.le
  have e1 : ((tickL p t).filter fun x => decide (x ≤ τ)).length = d := by
    unfold tickL
    rw [List.filter_map, List.length_map]
    rw [← filter_lt p.writes.length d hd]
    congr 1
    refine List.filter_congr fun i hi => ?_
    have hi := List.mem_range.mp hi
    show decide (t (i + 1) ≤ τ) = decide (i < d)
    by_cases g : i < d
    · rw [decide_eq_true g, decide_eq_true (h.below M g)]
    · have := h.above M (i := i) (by omega) hi
      rw [decide_eq_false g, decide_eq_false (by omega)]
  have et : ∀ i, i < p.writes.length → (tickL p t).getD i 0 = t (i + 1) := fun i hi => by simp [tickL, hi]
  have e2 : lawCase p (tickL p t) c τ = (d, s) := by
    unfold lawCase
    rw [e1]
    congr 1
    cases s with
    | none =>
      rw [List.getLast?_eq_none_iff, List.filter_eq_nil_iff]
      intro j hj
      have hj := List.mem_range.mp hj
      unfold lawSeen
      rw [et j (by omega)]
      by_cases g : p.cell j = c
      · have := h.gone j (by show 0 ≤ j; omega) hj g
        rw [decide_eq_false (p := τ < t (j + 1) + p.stay j) (by omega)]
        simp
      · rw [decide_eq_false g]; simp
    | some k =>
      obtain ⟨h1, h2, h3⟩ := h.there k rfl
      refine last_range h1 ?_ fun j h4 h5 => ?_
      · unfold lawSeen
        rw [et k (by omega), decide_eq_true h2, decide_eq_true (by omega)]
        rfl
      · unfold lawSeen
        rw [et j (by omega)]
        by_cases g : p.cell j = c
        · have := h.gone j (by show k + 1 ≤ j; omega) h5 g
          rw [decide_eq_false (p := τ < t (j + 1) + p.stay j) (by omega)]
          simp
        · rw [decide_eq_false g]; simp
  rw [e2]
  constructor
  · rintro rfl; exact h
  · intro k
    obtain ⟨a, b⟩ := h.uniq k M
    exact Prod.ext a b

/-! ### what the differences hold -/
theorem wd_holds {t : Nat → Int} : ∀ (bs : List (Int × Int)) (k : Nat), (∀ x ∈ wdGo k bs, HoldsT t x) ↔ ∀ i (h : i < bs.length), bs[i].1 ≤ t (k + i + 1) - t (k + i) ∧ t (k + i + 1) - t (k + i) ≤ bs[i].2
  | [], k => by simp [wdGo]
  | b :: bs, k => by
    rw [wdGo, List.forall_mem_cons, List.forall_mem_cons, wd_holds bs (k + 1)]
    unfold HoldsT
    simp only
    constructor
    · rintro ⟨h1, h2, h3⟩ i hi
      cases i with
      | zero => simp only [Nat.add_zero, List.getElem_cons_zero]; omega
      | succ i =>
        have := h3 i (by simpa using hi)
        rw [show k + 1 + i = k + (i + 1) by omega] at this
        simpa using this
    · intro h
      have h0 := h 0 (by simp)
      simp only [Nat.add_zero, List.getElem_cons_zero] at h0
      refine ⟨by omega, by omega, fun i hi => ?_⟩
      have := h (i + 1) (by simpa using hi)
      rw [show k + (i + 1) = k + 1 + i by omega] at this
      simpa using this
theorem writes_hold {p : Plan} {t : Nat → Int} : (∀ x ∈ writeDiffs p, HoldsT t x) ↔ Rests p.bounds t := by
  unfold writeDiffs
  rw [wd_holds]
  unfold Rests
  simp only [Nat.zero_add]
theorem look_holds {p : Plan} {r : Rdr} {t : Nat → Int} {j : Nat} {cs : Case} (ok : CaseOk p (lookAt r j).cell cs) : (∀ x ∈ lookDiffs p r j cs, HoldsT t x) ↔ lookIn p r t j ∧ CaseSat p.cell p.stay p.writes.length t (lookAt r j).cell (t (evOf p j)) cs.1 cs.2 := by
  unfold lookDiffs
  simp only [List.forall_mem_append, diffs_iff ok]
  refine and_congr ?_ Iff.rfl
  simp only [List.forall_mem_cons, HoldsT, lookIn]
  constructor
  · rintro ⟨h1, h2, _⟩
    omega
  · rintro ⟨h1, h2⟩
    exact ⟨by omega, by omega, by simp⟩
theorem ch_holds {p : Plan} {r : Rdr} {t : Nat → Int} : ∀ (cs : List Case) (j : Nat), (∀ i, i < cs.length → CaseOk p (lookAt r (j + i)).cell (cs.getD i (0, none))) →
    ((∀ x ∈ chDiffs p r j cs, HoldsT t x) ↔ ∀ i, i < cs.length → lookIn p r t (j + i) ∧ CaseSat p.cell p.stay p.writes.length t (lookAt r (j + i)).cell (t (evOf p (j + i))) (cs.getD i (0, none)).1 (cs.getD i (0, none)).2)
  | [], j, _ => by simp [chDiffs]
  | c :: cs, j, ok => by
    have ok0 : CaseOk p (lookAt r j).cell c := by simpa using ok 0 (by simp)
    have oks : ∀ i, i < cs.length → CaseOk p (lookAt r (j + 1 + i)).cell (cs.getD i (0, none)) := fun i hi => by
      have := ok (i + 1) (by simpa using hi)
      rw [show j + (i + 1) = j + 1 + i by omega] at this
      simpa using this
    rw [chDiffs]
    simp only [List.forall_mem_append]
    rw [look_holds ok0, ch_holds cs (j + 1) oks]
    constructor
    · rintro ⟨h1, h2⟩ i hi
      cases i with
      | zero => simpa using h1
      | succ i =>
        have := h2 i (by simpa using hi)
        rw [show j + 1 + i = j + (i + 1) by omega] at this
        simpa using this
    · intro h
      refine ⟨by simpa using h 0 (by simp), fun i hi => ?_⟩
      have := h (i + 1) (by simpa using hi)
      rw [show j + (i + 1) = j + 1 + i by omega] at this
      simpa using this
/-- all looks see their cases at the ticks t -/
def SatAll (p : Plan) (r : Rdr) (cs : List Case) (t : Nat → Int) : Prop := ∀ j, j < r.looks.length → CaseSat p.cell p.stay p.writes.length t (lookAt r j).cell (t (evOf p j)) (cs.getD j (0, none)).1 (cs.getD j (0, none)).2
theorem all_hold {p : Plan} {r : Rdr} {cs : List Case} {t : Nat → Int} (ok : ChoiceOk p r cs) : (∀ x ∈ allDiffs p r cs, HoldsT t x) ↔ Rests p.bounds t ∧ (∀ j, j < r.looks.length → lookIn p r t j) ∧ SatAll p r cs t := by
  have := ch_holds (t := t) cs 0 (fun i hi => by rw [Nat.zero_add]; exact ok.at' i (by rw [← ok.len]; exact hi))
  unfold allDiffs
  simp only [List.forall_mem_append]
  rw [writes_hold, this, ok.len]
  simp only [Nat.zero_add]
  unfold SatAll
  constructor
  · rintro ⟨h1, h2⟩
    exact ⟨h1, fun j hj => (h2 j hj).1, fun j hj => (h2 j hj).2⟩
  · rintro ⟨h1, h2, h3⟩
    exact ⟨h1, fun j hj => ⟨h2 j hj, h3 j hj⟩⟩
def nEv (p : Plan) (r : Rdr) : Nat := 1 + p.writes.length + r.looks.length
theorem wd_lt : ∀ (bs : List (Int × Int)) (k : Nat), ∀ x ∈ wdGo k bs, x.1 ≤ k + bs.length ∧ x.2.1 ≤ k + bs.length
  | [], k => by simp [wdGo]
  | b :: bs, k => by
    intro x hx
    rw [wdGo, List.mem_cons, List.mem_cons] at hx
    rw [List.length_cons]
    rcases hx with rfl | rfl | hx
    · show k ≤ _ ∧ k + 1 ≤ _; omega
    · show k + 1 ≤ _ ∧ k ≤ _; omega
    · have := wd_lt bs (k + 1) x hx; omega
theorem ch_lt {p : Plan} {r : Rdr} (hs : startEv r ≤ p.writes.length) : ∀ (cs : List Case) (j : Nat), (∀ i, i < cs.length → CaseOk p (lookAt r (j + i)).cell (cs.getD i (0, none))) → ∀ x ∈ chDiffs p r j cs, x.1 < p.writes.length + 1 + j + cs.length ∧ x.2.1 < p.writes.length + 1 + j + cs.length
  | [], j, _ => by simp [chDiffs]
  | c :: cs, j, ok => by
    intro x hx
    have ok0 : CaseOk p (lookAt r j).cell c := by simpa using ok 0 (by simp)
    have oks : ∀ i, i < cs.length → CaseOk p (lookAt r (j + 1 + i)).cell (cs.getD i (0, none)) := fun i hi => by
      have := ok (i + 1) (by simpa using hi)
      rw [show j + (i + 1) = j + 1 + i by omega] at this
      simpa using this
    rw [chDiffs, List.mem_append] at hx
    rw [List.length_cons]
    rcases hx with hx | hx
    · unfold lookDiffs at hx
      rw [List.mem_append] at hx
      have ha : aheadOf p r j < p.writes.length + 1 + j := by unfold aheadOf; split <;> omega
      rcases hx with hx | hx
      · simp only [List.mem_cons, List.not_mem_nil, or_false] at hx
        unfold evOf at hx
        rcases hx with rfl | rfl
        · simp only; omega
        · simp only; omega
      · have he : p.writes.length < evOf p j := by unfold evOf; omega
        have h1 := diffs_ends x hx
        have h2 := diffs_lt ok0 he x hx
        have he2 : evOf p j = p.writes.length + 1 + j := rfl
        rcases h1 with h1 | h1
        · have := h2.2 h1; omega
        · have := h2.1 h1; omega
    · have := ch_lt hs cs (j + 1) oks x hx; omega
theorem all_lt {p : Plan} {r : Rdr} {cs : List Case} (ok : ChoiceOk p r cs) (hs : startEv r ≤ p.writes.length) : ∀ x ∈ allDiffs p r cs, x.1 < nEv p r ∧ x.2.1 < nEv p r := by
  intro x hx
  have hl := ok.len
  unfold allDiffs at hx
  unfold nEv
  rcases List.mem_append.mp hx with hx | hx
  · have := wd_lt _ _ x hx
    rw [bounds_len] at this
    omega
  · have := ch_lt hs cs 0 (fun i hi => by rw [Nat.zero_add]; exact ok.at' i (by rw [← ok.len]; exact hi)) x hx
    omega
theorem diffs_rows {p : Plan} {r : Rdr} {cs : List Case} {es : List Pk} (ok : ChoiceOk p r cs) (hs : startEv r ≤ p.writes.length) (D : DiffsAre p r cs es) : RowsIn (nEv p r) es := by
  have L := leasts_ok (allDiffs p r cs)
  refine ⟨(List.Perm.map (fun e : Pk => e.1) D.perm).nodup_iff.mpr L.nd, fun e he => ?_⟩
  obtain ⟨x, hx, rfl⟩ := L.src e (D.perm.mem_iff.mp he)
  have := all_lt ok hs x hx
  show (0 ≤ (x.1 : Int) ∧ (x.1 : Int) < _) ∧ (0 ≤ (x.2.1 : Int) ∧ (x.2.1 : Int) < _)
  omega
theorem diffs_hold {p : Plan} {r : Rdr} {cs : List Case} {es : List Pk} (D : DiffsAre p r cs es) {t : Nat → Int} : (∀ e ∈ es, HoldsE t e) ↔ ∀ x ∈ allDiffs p r cs, HoldsT t x := by
  have L := leasts_ok (allDiffs p r cs)
  constructor
  · intro h x hx
    obtain ⟨c, h1, h2⟩ := L.up x hx
    have := h _ (D.perm.mem_iff.mpr h1)
    unfold HoldsE xN yN keyT at this
    simp only [Int.toNat_natCast] at this
    unfold HoldsT
    omega
  · intro h e he
    obtain ⟨x, hx, rfl⟩ := L.src e (D.perm.mem_iff.mp he)
    have := h x hx
    unfold HoldsE xN yN keyT
    simp only [Int.toNat_natCast]
    exact this
theorem diffs_uniq {p : Plan} {r : Rdr} {cs : List Case} {es fs : List Pk} (T : Tame p r cs) (D : DiffsAre p r cs es) (E : DiffsAre p r cs fs) : es = fs :=
  List.Perm.eq_of_pairwise (le := fun a b => rk 100 1000 (rowP3 a) ≤ rk 100 1000 (rowP3 b)) (fun a b ha hb h1 h2 => rowP3_inj (rk_inj rfl (tame_row T (D.perm.mem_iff.mp ha)) (tame_row T (E.perm.mem_iff.mp hb)) h1 h2)) D.up E.up (D.perm.trans E.perm.symm)
def F_ring : PF := fun as P => ∃ (p : Plan) (r : Rdr) (cs : List Case), as = [.d p.d, .d r.d, .d (choiceD cs)] ∧ p.ok ∧ RdrOk p r ∧ ChoiceOk p r cs ∧ Tame p r cs ∧ ∀ es, DiffsAre p r cs es → ((∃ b, ∀ e ∈ es, HoldsE b e) → P .none) ∧ ∀ q g, RingOk (nEv p r) es q g → P (.tuple (natsD ((List.range q).map g)))
theorem len_ring : ∀ as P, F_ring as P → as.length = 3 := by rintro _ P ⟨_, _, _, rfl, _⟩; rfl
def rd_ring : PTS :=
  (sSeq (sAsg (dCall F_differences (vCons (vE (dVar 0)) (vCons (vE (dVar 1)) (vCons (vE (dVar 2)) vNil)))) (aName 3))
  (sRet (dCall F_negative_ring (vCons (vE (dBin fAdd (dBin fAdd (dC (.int 1)) (dApp fLen (dCons (dBin fIx (dVar 0) (dC (.int 2))) dNil))) (dApp fLen (dCons (dBin fIx (dVar 1) (dC (.int 1))) dNil)))) (vCons (vE (dVar 3)) vNil)))))

theorem holds_ring : ∀ as Q, F_ring as Q → rd_ring { nx := fun _ => Q .none, rt := Q } (startP ["plan", "reader", "choice", "told"] as) := by
  rintro _ Q ⟨p, r, cs, rfl, o, h, ok, T, q⟩
  have hm := o.many
  have hk := h.many
  unfold rd_ring
  walk_at "pd"
  refine ⟨p, r, cs, rfl, o, h, ok, T, fun es D => ?_⟩
  have hl := (leasts_ok (allDiffs p r cs)).few
  have hf := T.few
  walk_at "pq"
  rw [List.length_map, List.length_map]
  have en : (1 : Int) + (p.writes.length : Nat) + (r.looks.length : Nat) = ((nEv p r : Nat) : Int) := by unfold nEv; omega
  rw [en]
  exact ⟨nEv p r, es, rfl, by unfold nEv; omega, by rw [D.perm.length_eq]; omega, diffs_rows ok h.ev D, (q es D).1, (q es D).2⟩

end PF
namespace PF
open PySem L2 PD
local macro_rules | `(tactic| walk_at "pd") => `(tactic| simp only [sOwnT, sPutT, dGet2, dInT, dGetT, sOwnF, sSeqO, sRetO, sParL, sParT, dLenSet, sOwnR, sSet, fMin, fSum, kt_inj, tup_pairI, dEnum, enumD, enumFromD, numD, isTupD, dFldZ, dFldO, sFldD, sFldA, sFldL, sFldApp, sMeth, dMethO, dMethN, nMake, sMakeP, PV.ins.injEq, PV.obj.injEq, fMax, fNotInI, fInI, fNotInX, sRet, sSeq, sIf, sNext, sNever, sAsg, sDrop, sFor, forP, sAug, sApp, sExt, sOwnL, sPar, sRow, dAndV, dOrV, dNotV, dIs, dVar, dC, dChain, dBin, dUn, fNeg, dTest, dTru, dNot, dAnd, dOr, dIf, dCall, dApp, vCons, vNil, vE, vRow, vScr, dCons, dNil, dTup, dLst, dComp, dIter, dRng1, dRng2, dZip, seqD, aName, aTup_tup, aCons, aNil, fIn0, fInt, fAdd, fOrd, fEq, fNe, fIs, fIsNot, isN, fIx_tup, fIx_lst, at0, at1, at2, at3, at_4, eqOk_int, eqv_int, eqOk_bool, eqv_bool, eqOk_str, eqv_str, eqOk_non, eqv_non, eqOk_nil, eqv_nil, decide_true, decide_false,  fLen, fTuple, fList, fAll, fAny, fIntC, truD, frz, startP, wipeP, dYes, dJoin, dIxO, dLenO, dSl, dPart, dNoPart, fSl, sRng1, sOwn2, sPar3O, sOwnN, dTupO, dRevT, dIdx, sExtT, sPar3O, sPop, dTruO, sWhile, sPutK, sOwnK, dict_kd, dInO, dIterR, dListO, dInD, dGetD, dIterD, dEnum, fListD, fListS, dIterS, kd_inj, str_keyD, int_keyD, PV.rng.injEq,
  List.map_cons, List.map_nil, List.length_cons, List.length_nil, List.replicate, List.cons_append, List.nil_append, List.append_nil, List.getElem?_cons_zero, List.getElem?_cons_succ, List.set_cons_zero, List.set_cons_succ, Option.some.injEq, PV.d.injEq, PV.own.injEq, PV.scr.injEq, PyData.int.injEq, PyData.bool.injEq, PyData.list.injEq, PyData.tuple.injEq, PyData.str.injEq, List.cons.injEq, exists_eq_left', exists_eq_left, exists_eq', exists_eq_right', and_assoc, exists_and_left, Nat.zero_add, Nat.add_zero, Nat.reduceAdd, Nat.reduceSub, Nat.reduceLT, Nat.sub_self, ite_true, if_true, if_false, Bool.false_eq_true, ite_false, Bool.not_true, Bool.not_false, Bool.true_and, Bool.and_true, Bool.false_and, Bool.and_false, Bool.true_or, Bool.or_true, Bool.false_or, Bool.or_false, Bool.and_self, true_and, and_true])
local macro_rules | `(tactic| walk_at "pt") => `(tactic| try walk_at "pd")
local macro_rules | `(tactic| walk_at "pp") => `(tactic| (simp only [wr_ix0, wr_ix1, wr_ix2, wr_ix3, wr_ix4, pl_ix0, pl_ix1, pl_ix2, pl_tup, rd_ix0, rd_ix1, rd_tup, lk_ix0, lk_ix1, lk_ix2, lk_tup, cs_ix0, cs_ix1, cs_tup, tr_tup, pr_tup, op_tup] <;> walk_at "pt"))
local macro_rules | `(tactic| walk_at "pq") => `(tactic| try walk_at "pp")
/-! ### timetables of the law -/
theorem sums_ticks {p : Plan} {r : Rdr} {rs ls : List Int} (h1 : Paced p rs) : sums 0 rs = tickL p (tickOf r rs ls) := by
  have e := pace_back (p := p) (r := r) (rs := rs) (ls := ls) (Paired.length h1).symm
  have := pace_sums (p := p) (t := tickOf r rs ls) (tick_zero r rs ls)
  rw [e] at this
  exact this
theorem moments_ticks {p : Plan} {r : Rdr} {rs ls : List Int} (h1 : Paced p rs) (h2 : Rested r ls) (hs : startEv r ≤ p.writes.length) : momentsOf r rs ls = (List.range r.looks.length).map fun j => tickOf r rs ls (evOf p j) := by
  have l1 := (Paired.length h1).symm
  have l2 := (Paired.length h2).symm
  have e := rest_back (p := p) (r := r) (rs := rs) (ls := ls) l1 l2 (by omega)
  have e2 := rest_sums (p := p) (r := r) (t := tickOf r rs ls)
  rw [e, ← start_at (p := p) (r := r) (tick_zero r rs ls) hs, ← sums_ticks h1] at e2
  exact e2
theorem tick_rests {p : Plan} {r : Rdr} (hr : p.rise) (hs : startEv r ≤ p.writes.length) {rs ls : List Int} (h1 : Paced p rs) (h2 : Rested r ls) : Rests p.bounds (tickOf r rs ls) ∧ (∀ j, j < r.looks.length → lookIn p r (tickOf r rs ls) j) ∧ Mono p.writes.length (tickOf r rs ls) := by
  obtain ⟨R, P⟩ := to_path hr hs h1 h2
  have M := rests_mono hr R
  refine ⟨R, fun j hj => ?_, M⟩
  rw [allOpts_eq] at P
  have := ((path_iff M _ _ _).mp P).1 j hj
  rwa [Nat.zero_add] at this
/-- the sight at each look -/
def lawCases (p : Plan) (r : Rdr) (rs ls : List Int) : List Case := (List.range r.looks.length).map fun j => lawCase p (sums 0 rs) (lookAt r j).cell (tickOf r rs ls (evOf p j))
theorem cases_sat {p : Plan} {r : Rdr} (hr : p.rise) (hs : startEv r ≤ p.writes.length) {cs : List Case} (ok : ChoiceOk p r cs) {rs ls : List Int} (h1 : Paced p rs) (h2 : Rested r ls) : lawCases p r rs ls = cs ↔ SatAll p r cs (tickOf r rs ls) := by
  obtain ⟨_, _, M⟩ := tick_rests hr hs h1 h2
  unfold lawCases SatAll
  rw [sums_ticks (r := r) (ls := ls) h1]
  constructor
  · intro h j hj
    refine (law_case_sat M).mp ?_
    rw [← h]
    simp [hj]
  · intro h
    refine List.ext_getElem (by simp [ok.len]) fun j h3 h4 => ?_
    have hj : j < r.looks.length := by simpa using h3
    rw [List.getElem_map, List.getElem_range, (law_case_sat M).mpr (h j hj)]
    simp [h4]
theorem so_iff {p : Plan} {r : Rdr} (hr : p.rise) (hs : startEv r ≤ p.writes.length) {cs : List Case} (ok : ChoiceOk p r cs) {es : List Pk} (D : DiffsAre p r cs es) {rs ls : List Int} (h1 : Paced p rs) (h2 : Rested r ls) : lawCases p r rs ls = cs ↔ ∀ e ∈ es, HoldsE (tickOf r rs ls) e := by
  obtain ⟨R, L, M⟩ := tick_rests hr hs h1 h2
  rw [cases_sat hr hs ok h1 h2, diffs_hold D, all_hold ok]
  exact ⟨fun h => ⟨R, L, h⟩, fun h => h.2.2⟩
theorem tick_own {p : Plan} {r : Rdr} {t : Nat → Int} (h0 : t 0 = 0) (hs : startEv r ≤ p.writes.length) {k : Nat} (hk : k < nEv p r) : tickOf r (paceT p t) (restT p r t) k = t k := by
  have e1 : sums 0 (paceT p t) = tickL p t := pace_sums h0
  have e2 : momentsOf r (paceT p t) (restT p r t) = (List.range r.looks.length).map fun j => t (evOf p j) := by
    show sums (startTick r (sums 0 (paceT p t))) (restT p r t) = _
    rw [e1, start_at h0 hs, rest_sums]
  unfold tickOf
  rw [e1, e2]
  unfold nEv at hk
  cases k with
  | zero => exact h0.symm
  | succ k =>
    rw [List.getD_cons_succ, List.getD_eq_getElem?_getD]
    have hl : (tickL p t).length = p.writes.length := by simp [tickL]
    by_cases h : k < p.writes.length
    · rw [List.getElem?_append_left (by omega)]
      simp [tickL, h]
    · rw [List.getElem?_append_right (by omega), hl]
      have h2 : k - p.writes.length < r.looks.length := by omega
      rw [List.getElem?_map, List.getElem?_range h2]
      show t (evOf p (k - p.writes.length)) = t (k + 1)
      unfold evOf
      congr 1
      omega
theorem holds_own {n : Nat} {es : List Pk} (R : RowsIn n es) {t u : Nat → Int} (h : ∀ k, k < n → t k = u k) (H : ∀ e ∈ es, HoldsE t e) : ∀ e ∈ es, HoldsE u e := fun e he => by
  obtain ⟨_, h1, _, h2⟩ := R.x he
  have := H e he
  unfold HoldsE at this ⊢
  rw [← h _ h1, ← h _ h2]
  exact this
theorem pot_gives {p : Plan} {r : Rdr} (hr : p.rise) (hs : startEv r ≤ p.writes.length) {cs : List Case} (ok : ChoiceOk p r cs) {es : List Pk} (D : DiffsAre p r cs es) (h : ∃ b, ∀ e ∈ es, HoldsE b e) : ∃ rs ls, Paced p rs ∧ Rested r ls ∧ lawCases p r rs ls = cs := by
  obtain ⟨b, hb⟩ := h
  have R := diffs_rows ok hs D
  have h1 : ∀ e ∈ es, HoldsE (fun k => b k - b 0) e := fun e he => by
    have := hb e he
    unfold HoldsE at this ⊢
    show b (xN e) - b 0 ≤ b (yN e) - b 0 + e.2
    omega
  generalize ht : (fun k => b k - b 0) = t at h1
  have h0 : t 0 = 0 := by rw [← ht]; simp
  obtain ⟨g1, g2, g3⟩ := (all_hold ok).mp ((diffs_hold D).mp h1)
  have P1 := paced_of g1
  have P2 := rested_of (p := p) (r := r) (t := t) fun i hi => by rw [Nat.zero_add]; exact g2 i hi
  refine ⟨_, _, P1, P2, (so_iff hr hs ok D P1 P2).mpr ?_⟩
  exact holds_own R (fun k hk => (tick_own h0 hs hk).symm) h1
/-- sight and differences at one timetable tell the same -/
def heldB (r : Rdr) (es : List Pk) (rs ls : List Int) : Bool := ((es.filter fun e => decide (tickOf r rs ls (xN e) > tickOf r rs ls (yN e) + e.2)).map fun _ => (1 : Int)).isEmpty
theorem held_iff {r : Rdr} {es : List Pk} {rs ls : List Int} : heldB r es rs ls = true ↔ ∀ e ∈ es, HoldsE (tickOf r rs ls) e := by
  unfold heldB
  rw [List.isEmpty_iff, List.map_eq_nil_iff, List.filter_eq_nil_iff]
  constructor
  · intro h e he
    have := h e he
    rw [decide_eq_true_eq] at this
    unfold HoldsE
    omega
  · intro h e he
    have := h e he
    unfold HoldsE at this
    rw [decide_eq_true_eq]
    omega
theorem so_held {p : Plan} {r : Rdr} (hr : p.rise) (hs : startEv r ≤ p.writes.length) {cs : List Case} (ok : ChoiceOk p r cs) {es : List Pk} (D : DiffsAre p r cs es) {rs ls : List Int} (h1 : Paced p rs) (h2 : Rested r ls) : heldB r es rs ls = decide (lawCases p r rs ls = cs) := by
  rw [Bool.eq_iff_iff, held_iff, decide_eq_true_eq, so_iff hr hs ok D h1 h2]
/-! ### drawn things are tame -/
theorem ch_lo {p : Plan} {r : Rdr} {a : Int} (hl : ∀ j, j < r.looks.length → 0 ≤ (lookAt r j).low ∧ (lookAt r j).low ≤ 50 ∧ 0 ≤ (lookAt r j).high ∧ (lookAt r j).high ≤ 50) (hst : ∀ k, k < p.writes.length → 0 ≤ p.stay k ∧ p.stay k ≤ 50) : ∀ (cs : List Case) (j : Nat), j + cs.length ≤ r.looks.length → (∀ c ∈ cs, c.1 ≤ p.writes.length ∧ ∀ k, c.2 = some k → k < c.1) → ∀ x ∈ chDiffs p r j cs, -100 ≤ x.2.2 ∧ x.2.2 < 900
  | [], j, _, _ => by simp [chDiffs]
  | c :: cs, j, hj, hc => by
    intro x hx
    rw [List.length_cons] at hj
    obtain ⟨c1, c2⟩ := hc c (by simp)
    rw [chDiffs, List.mem_append] at hx
    rcases hx with hx | hx
    · have hlj := hl j (by omega)
      unfold lookDiffs caseDiffs at hx
      simp only [List.mem_append, List.mem_cons, List.not_mem_nil, or_false] at hx
      rcases hx with (rfl | rfl) | ((hx | hx) | hx) | hx
      · simp only; omega
      · simp only; omega
      · split at hx
        · rw [List.mem_singleton] at hx; subst hx; simp
        · cases hx
      · split at hx
        · rw [List.mem_singleton] at hx; subst hx; simp
        · cases hx
      · unfold thereOf at hx
        split at hx
        · cases hx
        · next k hk =>
          rw [List.mem_singleton] at hx
          subst hx
          have := hst k (by have := c2 k hk; omega)
          simp only
          omega
      · unfold goneOf at hx
        obtain ⟨k, hk, e1⟩ := List.mem_filterMap.mp hx
        obtain ⟨i, hi, rfl⟩ := List.mem_map.mp hk
        have hi := List.mem_range.mp hi
        split at e1
        · cases e1
          have := hst (laterOf c.2 + i) (by omega)
          simp only
          omega
        · cases e1
    · exact ch_lo (a := a) hl hst cs (j + 1) (by omega) (fun d hd => hc d (by simp [hd])) x hx
theorem wd_lo : ∀ (bs : List (Int × Int)) (k : Nat), (∀ b ∈ bs, 0 ≤ b.1 ∧ b.1 ≤ 50 ∧ 0 ≤ b.2 ∧ b.2 ≤ 50) → ∀ x ∈ wdGo k bs, -100 ≤ x.2.2 ∧ x.2.2 < 900
  | [], k, _ => by simp [wdGo]
  | b :: bs, k, h => by
    intro x hx
    have := h b (by simp)
    rw [wdGo, List.mem_cons, List.mem_cons] at hx
    rcases hx with rfl | rfl | hx
    · show -100 ≤ -b.1 ∧ -b.1 < 900; omega
    · show -100 ≤ b.2 ∧ b.2 < 900; omega
    · exact wd_lo bs (k + 1) (fun c hc => h c (by simp [hc])) x hx
theorem drawn_tame {p : Plan} {r : Rdr} (hp : Drawn 4 2 p) (hr : RdrDrawn p 2 2 r) {cs : List Case} (ok : ChoiceOk p r cs) : Tame p r cs := by
  have hm := hp.many
  have hk := hr.many
  have hs := (hr.ok (by decide) (by decide)).ev
  have hcs : ∀ c ∈ cs, c.1 ≤ p.writes.length ∧ ∀ k, c.2 = some k → k < c.1 := fun c hc => by
    obtain ⟨j, hj, rfl⟩ := List.mem_iff_getElem.mp hc
    have := ok.at' j (by rw [← ok.len]; exact hj)
    rw [show cs.getD j (0, none) = cs[j] by simp [hj]] at this
    exact ⟨this.le, fun k hk => (this.lt k hk).1⟩
  have hl := ok.len
  refine ⟨?_, fun x hx => ?_⟩
  · have h1 := chDiffs_len (r := r) cs 0 fun c hc => (hcs c hc).1
    have h2 := wdGo_len p.bounds 0
    rw [bounds_len] at h2
    unfold allDiffs writeDiffs
    rw [List.length_append, h2]
    have h3 : cs.length * (p.writes.length + 5) ≤ 2 * 9 := Nat.mul_le_mul (by omega) (by omega)
    omega
  · have h1 := all_lt ok hs x hx
    have h2 : nEv p r ≤ 7 := by unfold nEv; omega
    refine ⟨by omega, by omega, ?_⟩
    unfold allDiffs at hx
    rcases List.mem_append.mp hx with hx | hx
    · refine wd_lo _ _ (fun b hb => ?_) x hx
      obtain ⟨w, hw, rfl⟩ := List.mem_map.mp hb
      have := hp.low w hw
      have := hp.high w hw
      show 0 ≤ w.low ∧ w.low ≤ 50 ∧ 0 ≤ w.high ∧ w.high ≤ 50
      omega
    · refine ch_lo (a := 0) (fun j hj => ?_) (fun k hk => ?_) cs 0 (by omega) hcs x hx
      · have hm : lookAt r j ∈ r.looks := by unfold lookAt; simp [hj]
        obtain ⟨_, _, _⟩ := hr.look _ hm
        omega
      · have hw := Plan.at_mem (p := p) hk
        have hi := hp.ink _ hw
        have : p.stay k ∈ p.stays := by
          unfold Plan.stay
          have : (p.at k).ink.toNat < p.stays.length := by omega
          simp [this]
        have := hp.stay _ this
        omega

end PF
namespace PF
open PySem L2 PD
local macro_rules | `(tactic| walk_at "pd") => `(tactic| simp only [sOwnT, sPutT, dGet2, dInT, dGetT, sOwnF, sSeqO, sRetO, sParL, sParT, dLenSet, sOwnR, sSet, fMin, fSum, kt_inj, tup_pairI, dEnum, enumD, enumFromD, numD, isTupD, dFldZ, dFldO, sFldD, sFldA, sFldL, sFldApp, sMeth, dMethO, dMethN, nMake, sMakeP, PV.ins.injEq, PV.obj.injEq, fMax, fNotInI, fInI, fNotInX, sRet, sSeq, sIf, sNext, sNever, sAsg, sDrop, sFor, forP, sAug, sApp, sExt, sOwnL, sPar, sRow, dAndV, dOrV, dNotV, dIs, dVar, dC, dChain, dBin, dUn, fNeg, dTest, dTru, dNot, dAnd, dOr, dIf, dCall, dApp, vCons, vNil, vE, vRow, vScr, dCons, dNil, dTup, dLst, dComp, dIter, dRng1, dRng2, dZip, seqD, aName, aTup_tup, aCons, aNil, fIn0, fInt, fAdd, fOrd, fEq, fNe, fIs, fIsNot, isN, fIx_tup, fIx_lst, at0, at1, at2, at3, at_4, eqOk_int, eqv_int, eqOk_bool, eqv_bool, eqOk_str, eqv_str, eqOk_non, eqv_non, eqOk_nil, eqv_nil, decide_true, decide_false,  fLen, fTuple, fList, fAll, fAny, fIntC, truD, frz, startP, wipeP, dYes, dJoin, dIxO, dLenO, dSl, dPart, dNoPart, fSl, sRng1, sOwn2, sPar3O, sOwnN, dTupO, dRevT, dIdx, sExtT, sPar3O, sPop, dTruO, sWhile, sPutK, sOwnK, dict_kd, dInO, dIterR, dListO, dInD, dGetD, dIterD, dEnum, fListD, fListS, dIterS, kd_inj, str_keyD, int_keyD, PV.rng.injEq,
  List.map_cons, List.map_nil, List.length_cons, List.length_nil, List.replicate, List.cons_append, List.nil_append, List.append_nil, List.getElem?_cons_zero, List.getElem?_cons_succ, List.set_cons_zero, List.set_cons_succ, Option.some.injEq, PV.d.injEq, PV.own.injEq, PV.scr.injEq, PyData.int.injEq, PyData.bool.injEq, PyData.list.injEq, PyData.tuple.injEq, PyData.str.injEq, List.cons.injEq, exists_eq_left', exists_eq_left, exists_eq', exists_eq_right', and_assoc, exists_and_left, Nat.zero_add, Nat.add_zero, Nat.reduceAdd, Nat.reduceSub, Nat.reduceLT, Nat.sub_self, ite_true, if_true, if_false, Bool.false_eq_true, ite_false, Bool.not_true, Bool.not_false, Bool.true_and, Bool.and_true, Bool.false_and, Bool.and_false, Bool.true_or, Bool.or_true, Bool.false_or, Bool.or_false, Bool.and_self, true_and, and_true])
local macro_rules | `(tactic| walk_at "pt") => `(tactic| try walk_at "pd")
local macro_rules | `(tactic| walk_at "pp") => `(tactic| (simp only [wr_ix0, wr_ix1, wr_ix2, wr_ix3, wr_ix4, pl_ix0, pl_ix1, pl_ix2, pl_tup, rd_ix0, rd_ix1, rd_tup, lk_ix0, lk_ix1, lk_ix2, lk_tup, cs_ix0, cs_ix1, cs_tup, tr_tup, pr_tup, op_tup] <;> walk_at "pt"))
local macro_rules | `(tactic| walk_at "pq") => `(tactic| try walk_at "pp")
def lawT15 : PTS :=
  (sSeq (sIf (dOr (dNot (dTru (dIs isTupD (dVar 17)))) (dOr (dTest (dBin fNe (dLenSet fLenSetI (dCons (dVar 17) dNil)) (dApp fLen (dCons (dVar 17) dNil)))) (dTest (dBin fEq (dVar 17) (dTup dNil))))) (sRet (dC (.bool false))) sNext)
  (sSeq (sAsg (dComp (dEnum (dCons (dVar 17) dNil)) (aTup 2 (aCons (aName 6) (aCons (aName 26) aNil))) dYes (dTup (dCons (dVar 26) (dCons (dBin fIx (dVar 17) (dBin fMod (dBin fAdd (dVar 6) (dC (.int 1))) (dApp fLen (dCons (dVar 17) dNil)))) dNil))) [6, 26]) (aName 18))
  (sRet (dAndV (dBin fEq (dComp (dIter (dVar 18)) (aName 28) (dTest (dInT true (dVar 28) (dVar 10))) (dVar 28) [28]) (dLst dNil)) (dBin fLt (dApp fSum (dCons (dComp (dIter (dVar 18)) (aName 28) dYes (dGetT (dVar 10) (dVar 28)) [28]) dNil)) (dC (.int 0)))))))
def lawT12 : PTS :=
  (sSeq (sAsg (dCall F_ring (vCons (vE (dVar 2)) (vCons (vE (dVar 3)) (vCons (vE (dVar 8)) vNil)))) (aName 17))
  (sSeq (sIf (dTest (dBin fNe (dBin fIs (dVar 17) (dC .none)) (dBin fGt (dVar 11) (dC (.int 0))))) (sRet (dC (.bool false))) sNext)
  (sSeq (sIf (dTest (dBin fIs (dVar 17) (dC .none))) (sRet (dC (.bool true))) sNext)
  lawT15)))
def lawT11 : PTS :=
  (sSeq (sFor (dIter (dCall F__law_paces (vCons (vE (dVar 2)) vNil))) (aName 16) (sFor (dIter (dVar 15)) (aName 21) (sSeq (sAsg (dCall F__law_ticks (vCons (vE (dVar 16)) (vCons (vE (dC (.int 0))) vNil))) (aName 22))
  (sSeq (sAsg (dCall F__law_ticks (vCons (vE (dVar 21)) (vCons (vE (dIf (dTest (dBin fIs (dBin fIx (dVar 3) (dC (.int 0))) (dC .none))) (dC (.int 0)) (dBin fIx (dVar 22) (dBin fIx (dVar 3) (dC (.int 0)))))) vNil))) (aName 23))
  (sSeq (sAsg (dBin fAdd (dBin fAdd (dLst (dCons (dC (.int 0)) dNil)) (dVar 22)) (dVar 23)) (aName 24))
  (sSeq (sAsg (dBin fEq (dComp (dZip (dCons (dBin fIx (dVar 3) (dC (.int 1))) (dCons (dVar 23) dNil))) (aTup 2 (aCons (aName 7) (aCons (aName 29) aNil))) dYes (dCall F__law_case (vCons (vE (dVar 2)) (vCons (vE (dVar 22)) (vCons (vE (dBin fIx (dVar 7) (dC (.int 0)))) (vCons (vE (dVar 29)) vNil))))) [7, 29]) (dApp fList (dCons (dVar 8) dNil))) (aName 25))
  (sSeq (sIf (dTest (dBin fNe (dVar 25) (dBin fEq (dComp (dIter (dVar 9)) (aTup 3 (aCons (aName 12) (aCons (aName 13) (aCons (aName 14) aNil)))) (dTest (dBin fGt (dBin fIx (dVar 24) (dVar 12)) (dBin fAdd (dBin fIx (dVar 24) (dVar 13)) (dVar 14)))) (dC (.int 1)) [12, 13, 14]) (dLst dNil)))) (sRet (dC (.bool false))) sNext)
  (sAsg (dBin fAdd (dVar 11) (dApp fIntC (dCons (dVar 25) dNil))) (aName 11)))))))))
  lawT12)
def lawT10 : PTS :=
  (sSeq (sAsg (dCall F__law_all (vCons (vE (dComp (dIter (dBin fIx (dVar 3) (dC (.int 1)))) (aName 7) dYes (dTup (dCons (dBin fIx (dVar 7) (dC (.int 1))) (dCons (dBin fIx (dVar 7) (dC (.int 2))) dNil))) [7])) vNil)) (aName 15))
  lawT11)
def lawT8 : PTS :=
  (sSeq (sParT 10 11 (dC (.int 0)))
  (sSeq (sFor (dIter (dVar 9)) (aTup 3 (aCons (aName 12) (aCons (aName 13) (aCons (aName 14) aNil)))) (sPutT 10 (dTup (dCons (dVar 12) (dCons (dVar 13) dNil))) (dVar 14)))
  lawT10))
def lawT6 : PTS :=
  (sSeq (sAsg (dCall F_differences (vCons (vE (dVar 2)) (vCons (vE (dVar 3)) (vCons (vE (dVar 8)) vNil)))) (aName 9))
  (sSeq (sIf (dOr (dNot (dTru (dIs isTupD (dVar 9)))) (dOr (dTest (dBin fNe (dApp (fSortR 3 100 1000) (dCons (dVar 9) dNil)) (dApp fList (dCons (dVar 9) dNil)))) (dTest (dBin fNe (dLenSet fLenSetP (dCons (dComp (dIter (dVar 9)) (aName 26) dYes (dSl (dVar 26) dNoPart (dPart (dC (.int 2)))) [26]) dNil)) (dApp fLen (dCons (dVar 9) dNil)))))) (sRet (dC (.bool false))) sNext)
  lawT8))
def lawT5 : PTS :=
  (sSeq (sFrz (sAsg (dApp fTuple (dCons (dComp (dIter (dVar 4)) (aName 27) dYes (dCall F__law_pick (vCons (vRow 1) (vCons (vE (dVar 27)) vNil))) [27]) dNil)) (aName 8)))
  lawT6)
def lawT4 : PTS :=
  (sSeq (sFor (dEnum (dCons (dBin fIx (dVar 3) (dC (.int 1))) dNil)) (aTup 2 (aCons (aName 6) (aCons (aName 7) aNil))) (sSeq (sAsg (dLst dNil) (aName 19))
  (sSeq (sFor (dRng1 (dCons (dBin fAdd (dVar 5) (dC (.int 1))) dNil)) (aName 20) (sAsg (dBin fAdd (dBin fAdd (dVar 19) (dLst (dCons (dTup (dCons (dVar 20) (dCons (dC .none) dNil))) dNil))) (dComp (dRng1 (dCons (dVar 20) dNil)) (aName 26) (dTest (dBin fEq (dBin fIx (dBin fIx (dBin fIx (dVar 2) (dC (.int 2))) (dVar 26)) (dC (.int 0))) (dBin fIx (dVar 7) (dC (.int 0))))) (dTup (dCons (dVar 20) (dCons (dVar 26) dNil))) [26])) (aName 19)))
  (sSeq (sIf (dNot (dTru (dCall F__law_alike (vCons (vE (dCall F_cases (vCons (vE (dVar 2)) (vCons (vE (dVar 3)) (vCons (vE (dVar 6)) vNil))))) (vCons (vE (dApp fTuple (dCons (dVar 19) dNil))) vNil))))) (sRet (dC (.bool false))) sNext)
  (sApp 4 (dVar 19))))))
  lawT5)
def rd_law : PTS :=
  (sSeq (sRow 1 0)
  (sSeq (sAsg (dCall F__law_plan (vCons (vRow 1) (vCons (vE (dC (.int 4))) (vCons (vE (dC (.int 2))) vNil)))) (aName 2))
  (sSeq (sAsg (dCall F__law_reader (vCons (vRow 1) (vCons (vE (dVar 2)) (vCons (vE (dC (.int 2))) (vCons (vE (dC (.int 2))) vNil))))) (aName 3))
  (sSeq (sParL 4 5 (dApp fLen (dCons (dBin fIx (dVar 2) (dC (.int 2))) dNil)))
  lawT4))))

def PE0 (Q : Dt → Prop) : PEnds := { nx := fun _ => Q .none, rt := Q }
def ringD (m : Nat) (g : Nat → Nat) : Dt := .tuple (natsD ((List.range m).map g))
theorem natsD_ints (l : List Nat) : natsD l = (l.map fun i : Nat => (i : Int)).map PyData.int := by
  unfold natsD; rw [List.map_map]; rfl
theorem enum_range (f : Nat → Dt) : ∀ m k : Nat, enumFromD k ((List.range' k m).map f) = (List.range' k m).map fun i => .tuple [.int (i : Nat), f i]
  | 0, k => rfl
  | m + 1, k => by
    rw [List.range'_succ, List.map_cons, List.map_cons, enumFromD, enum_range f m (k + 1)]
theorem enum_range0 (f : Nat → Dt) (m : Nat) : enumFromD 0 ((List.range m).map f) = (List.range m).map fun i => .tuple [.int (i : Nat), f i] := by
  rw [List.range_eq_range']; exact enum_range f m 0
theorem ring_nodup {m : Nat} {g : Nat → Nat} (h : ∀ i j, i < m → j < m → g i = g j → i = j) : (((List.range m).map g).map fun i : Nat => (i : Int)).Nodup := by
  rw [List.map_map]
  rw [List.nodup_iff_pairwise_ne, List.pairwise_map]
  refine List.Pairwise.imp_of_mem (R := fun a b => a ≠ b) (fun {a b} ha hb hab e => hab ?_) (List.nodup_iff_pairwise_ne.mp List.nodup_range)
  exact h a b (List.mem_range.mp ha) (List.mem_range.mp hb) (by have : ((g a : Nat) : Int) = (g b : Nat) := e; omega)
def stepAt (g : Nat → Nat) (i : Nat) : Int × Int := ((g i : Int), (g (i + 1) : Int))
theorem wt_edge {es : List Pk} {x y : Nat} (h : EdgeE es x y) : getP es ((x : Int), (y : Int)) = some (wtE es x y) := by
  unfold wtE
  cases e : getP es ((x : Int), (y : Int)) with
  | none => exact absurd h (getP_none.mp e)
  | some v => rfl
/-- a ring is told -/
theorem law15 (Q : Dt → Prop) (q : Q (.bool true)) (n m : Nat) (es : List Pk) (g : Nat → Nat) (K : RingOk n es m g) (hn : n ≤ 1000) (x0 x1 x2 x3 x4 x5 x6 x7 x8 x9 x11 x12 x13 x14 x15 x16 x18 x19 x20 x21 x22 x23 x24 x25 x26 x27 x28 x29 : PV) :
    lawT15 (PE0 Q) [x0, x1, x2, x3, x4, x5, x6, x7, x8, x9, .own (kt es), x11, x12, x13, x14, x15, x16, .d (ringD m g), x18, x19, x20, x21, x22, x23, x24, x25, x26, x27, x28, x29] := by
  have hp := K.pos
  have hf := K.few
  have hlen : (natsD ((List.range m).map g)).length = m := by simp [natsD]
  have e2 : natsD ((List.range m).map g) = (List.range m).map fun i => .int (g i : Nat) := by unfold natsD; rw [List.map_map]; rfl
  unfold lawT15 PE0 ringD
  walk_at "pd"
  refine ⟨_, congrArg (fun z => [PyData.tuple z]) (natsD_ints _), ring_nodup K.inj, by rw [List.length_map, List.length_map, List.length_range]; omega, ?_⟩
  rw [hlen, List.length_map, List.length_map, List.length_range]
  walk_at "pt"
  have hne : (natsD ((List.range m).map g)) ≠ [] := fun z => by rw [z] at hlen; simp at hlen; omega
  have eo : eqOk (PyData.tuple (natsD ((List.range m).map g))) (PyData.tuple []) = true := by
    rw [natsD_ints]
    obtain ⟨h1, h2⟩ := lay_intsA (((List.range m).map g).map fun i : Nat => (i : Int))
    simp only [eqOk, SeqAt.shaped, PyData.canLay0, PyData.depth, h1, h2, PyData.canLayAll0, PyData.depthAll]
    decide
  have ev : PyData.eqv (PyData.tuple (natsD ((List.range m).map g))) (PyData.tuple []) = false := by
    cases h : natsD ((List.range m).map g) with
    | nil => exact absurd h hne
    | cons z zs => simp [PyData.eqv, PyData.eqvAll]
  rw [ev]
  refine ⟨by decide, eo, ?_⟩
  walk_at "pt"
  have ee : enumFromD 0 (natsD ((List.range m).map g)) = (List.range m).map fun i => .tuple [.int (i : Nat), .int (g i : Nat)] := by rw [e2, enum_range0]
  rw [ee]
  intro _
  refine lcP_enc (fun i : Nat => .tuple [.int (i : Nat), .int (g i : Nat)]) (fun i => pairI (stepAt g i)) _ _ (fun i hi P' p' => ?_) ?_
  · have hi := List.mem_range.mp hi
    walk_at "pd"
    rw [hlen]
    refine ⟨by omega, ?_⟩
    have eg : ∃ j : Nat, ((i : Int) + 1) % (m : Nat) = (j : Nat) ∧ j < m ∧ g j = g (i + 1) := by
      by_cases h : i + 1 = m
      · refine ⟨0, ?_, hp, ?_⟩
        · rw [show ((i : Int) + 1) = (m : Nat) by omega]; simp
        · rw [h, K.en]
      · refine ⟨i + 1, ?_, by omega, rfl⟩
        rw [show ((i : Int) + 1) = ((i + 1 : Nat) : Int) by omega, ← Int.natCast_emod, Nat.mod_eq_of_lt (by omega)]
    obtain ⟨j, h1, h2, h3⟩ := eg
    rw [h1, e2]
    refine ⟨_, at_range h2, by decide, ?_⟩
    rw [h3]
    exact p'
  intro _
  refine lcP_encf (fun i : Nat => pairI (stepAt g i)) (fun i : Nat => pairI (stepAt g i)) (fun _ => false) _ _ (fun i hi Pt Pf h => ?_) ?_
  · have hi := List.mem_range.mp hi
    have hw := wt_edge (K.edge i hi)
    walk_at "pd"
    refine ⟨_, rfl, ?_⟩
    unfold stepAt
    rw [hw]
    simpa using h
  rw [show (List.range m).filter (fun _ => false) = [] by rw [List.filter_eq_nil_iff]; simp]
  walk_at "pt"
  refine ⟨by decide, fun _ => ?_⟩
  refine lcP_enc (fun i : Nat => pairI (stepAt g i)) (fun i : Nat => .int (wtE es (g i) (g (i + 1)))) _ _ (fun i hi P' p' => ?_) ?_
  · have hi := List.mem_range.mp hi
    have hw := wt_edge (K.edge i hi)
    walk_at "pd"
    exact ⟨_, rfl, _, hw, p'⟩
  have e5 : (List.range m).map (fun i : Nat => PyData.int (wtE es (g i) (g (i + 1)))) = ((List.range m).map fun i : Nat => wtE es (g i) (g (i + 1))).map PyData.int := by rw [List.map_map]; rfl
  rw [e5]
  refine ⟨_, ints_map _, ?_⟩
  have hs := K.neg
  unfold stepSum at hs
  rw [decide_eq_true hs]
  exact q
theorem zip_cases {α : Type} {ls : List Lk} {h : Nat → Int} (F : Lk → Int → α) : (ls.zip ((List.range ls.length).map h)).map (fun q => F q.1 q.2) = (List.range ls.length).map fun j => F (ls.getD j ⟨0, 0, 0⟩) (h j) := by
  refine List.ext_getElem (by simp) fun j h1 h2 => ?_
  have hj : j < ls.length := by simpa using h2
  simp [hj]
/-- what the turns so far tell -/
structure Tally (p : Plan) (r : Rdr) (cs : List Case) (done : List (List Int × List Int)) (k : Int) : Prop where
  pos : 0 ≤ k
  some : 0 < k ↔ ∃ x ∈ done, lawCases p r x.1 x.2 = cs
theorem Tally.next {p : Plan} {r : Rdr} {cs : List Case} {done : List (List Int × List Int)} {k : Int} (T : Tally p r cs done k) (rs ls : List Int) : Tally p r cs (done ++ [(rs, ls)]) (k + if decide (lawCases p r rs ls = cs) = true then 1 else 0) := by
  have h0 := T.pos
  have h1 := T.some
  by_cases e : lawCases p r rs ls = cs
  · rw [decide_eq_true e, if_pos rfl]
    exact ⟨by omega, fun _ => ⟨(rs, ls), by simp, e⟩, fun _ => by omega⟩
  · rw [decide_eq_false e, if_neg (by decide)]
    refine ⟨by omega, ?_⟩
    rw [Int.add_zero, h1]
    constructor
    · rintro ⟨x, hx, hc⟩
      exact ⟨x, by simp [hx], hc⟩
    · rintro ⟨x, hx, hc⟩
      rcases List.mem_append.mp hx with hx | hx
      · exact ⟨x, hx, hc⟩
      · rw [List.mem_singleton] at hx; subst hx; exact absurd hc e
structure S3 (p : Plan) (r : Rdr) (cs : List Case) (es : List Pk) : Prop where
  hp : Drawn 4 2 p
  hr : RdrDrawn p 2 2 r
  ok : ChoiceOk p r cs
  D : DiffsAre p r cs es
theorem S3.pok {p : Plan} {r : Rdr} {cs : List Case} {es : List Pk} (S : S3 p r cs es) : p.ok := S.hp.ok (by decide) (by decide)
theorem S3.rok {p : Plan} {r : Rdr} {cs : List Case} {es : List Pk} (S : S3 p r cs es) : RdrOk p r := S.hr.ok (by decide) (by decide)
theorem S3.rows {p : Plan} {r : Rdr} {cs : List Case} {es : List Pk} (S : S3 p r cs es) : RowsIn (nEv p r) es := diffs_rows S.ok S.rok.ev S.D
theorem S3.few {p : Plan} {r : Rdr} {cs : List Case} {es : List Pk} (S : S3 p r cs es) : es.length < 64 := by
  have T := (drawn_tame S.hp S.hr S.ok).few
  have L := (leasts_ok (allDiffs p r cs)).few
  have := S.D.perm.length_eq
  omega
theorem S3.nev {p : Plan} {r : Rdr} {cs : List Case} {es : List Pk} (S : S3 p r cs es) : nEv p r ≤ 7 := by
  have := S.hp.many
  have := S.hr.many
  unfold nEv
  omega
/-- the ring, found or not -/
theorem law12 (Q : Dt → Prop) (q : Q (.bool true)) (ns : List Int) (p : Plan) (r : Rdr) (cs : List Case) (es : List Pk) (S : S3 p r cs es) (k : Int) (hk0 : 0 ≤ k) (hk : 0 < k ↔ ∃ rs ls, Paced p rs ∧ Rested r ls ∧ lawCases p r rs ls = cs) (x4 x5 x6 x7 x9 x12 x13 x14 x15 x16 x17 x18 x19 x20 x21 x22 x23 x24 x25 x26 x27 x28 x29 : PV) :
    lawT12 (PE0 Q) [.scr ns, .row, .d p.d, .d r.d, x4, x5, x6, x7, .d (choiceD cs), x9, .own (kt es), .d (.int k), x12, x13, x14, x15, x16, x17, x18, x19, x20, x21, x22, x23, x24, x25, x26, x27, x28, x29] := by
  have hn := S.nev
  have T := drawn_tame S.hp S.hr S.ok
  have key := fun m g K => law15 Q q (nEv p r) m es g K (by omega) (.scr ns) .row (.d p.d) (.d r.d) x4 x5 x6 x7 (.d (choiceD cs)) x9 (.d (.int k)) x12 x13 x14 x15 x16 x18 x19 x20 x21 x22 x23 x24 x25 x26 x27 x28 x29
  unfold lawT12
  unfold ringD at key
  generalize lawT15 = L at key ⊢
  unfold PE0 at key ⊢
  walk_at "pd"
  refine ⟨p, r, cs, rfl, S.pok, S.rok, S.ok, T, fun es' D' => ?_⟩
  have e := diffs_uniq T S.D D'
  subst e
  refine ⟨fun hb => ?_, fun m g K => ?_⟩
  · have h1 := hk.mpr (pot_gives S.hp.rise S.rok.ev S.ok S.D hb)
    walk_at "pt"
    rw [decide_eq_true h1]
    walk_at "pt"
    exact q
  · have h1 : ¬ 0 < k := fun h => by
      obtain ⟨rs, ls, a, b, c⟩ := hk.mp h
      exact no_ring S.rows ((so_iff S.hp.rise S.rok.ev S.ok S.D a b).mp c) K
    walk_at "pt"
    rw [decide_eq_false h1]
    walk_at "pt"
    exact key m g K
def tkB3 : PTS := (sSeq (sAsg (dBin fEq (dComp (dZip (dCons (dBin fIx (dVar 3) (dC (.int 1))) (dCons (dVar 23) dNil))) (aTup 2 (aCons (aName 7) (aCons (aName 29) aNil))) dYes (dCall F__law_case (vCons (vE (dVar 2)) (vCons (vE (dVar 22)) (vCons (vE (dBin fIx (dVar 7) (dC (.int 0)))) (vCons (vE (dVar 29)) vNil))))) [7, 29]) (dApp fList (dCons (dVar 8) dNil))) (aName 25))
  (sSeq (sIf (dTest (dBin fNe (dVar 25) (dBin fEq (dComp (dIter (dVar 9)) (aTup 3 (aCons (aName 12) (aCons (aName 13) (aCons (aName 14) aNil)))) (dTest (dBin fGt (dBin fIx (dVar 24) (dVar 12)) (dBin fAdd (dBin fIx (dVar 24) (dVar 13)) (dVar 14)))) (dC (.int 1)) [12, 13, 14]) (dLst dNil)))) (sRet (dC (.bool false))) sNext)
  (sAsg (dBin fAdd (dVar 11) (dApp fIntC (dCons (dVar 25) dNil))) (aName 11))))
def tkB : PTS := (sSeq (sAsg (dCall F__law_ticks (vCons (vE (dVar 16)) (vCons (vE (dC (.int 0))) vNil))) (aName 22))
  (sSeq (sAsg (dCall F__law_ticks (vCons (vE (dVar 21)) (vCons (vE (dIf (dTest (dBin fIs (dBin fIx (dVar 3) (dC (.int 0))) (dC .none))) (dC (.int 0)) (dBin fIx (dVar 22) (dBin fIx (dVar 3) (dC (.int 0)))))) vNil))) (aName 23))
  (sSeq (sAsg (dBin fAdd (dBin fAdd (dLst (dCons (dC (.int 0)) dNil)) (dVar 22)) (dVar 23)) (aName 24))
  tkB3)))
def evI (r : Rdr) (rs ls : List Int) : List Int := 0 :: (sums 0 rs ++ momentsOf r rs ls)
theorem one_tk3 (Q : PEnds) (ns : List Int) (p : Plan) (r : Rdr) (cs : List Case) (es : List Pk) (S : S3 p r cs es) (rs ls : List Int) (hrs : Paced p rs) (hls : Rested r ls) (k : Int) (x4 x5 x6 x7 x10 x12 x13 x14 x15 x17 x18 x19 x20 x25 x26 x27 x28 x29 : PV)
    (q : ∀ x7 x12 x13 x14 x22 x23 x24 x25 x29, Q.nx [.scr ns, .row, .d p.d, .d r.d, x4, x5, x6, x7, .d (choiceD cs), .d (pksD es), x10, .d (.int (k + if decide (lawCases p r rs ls = cs) = true then 1 else 0)), x12, x13, x14, x15, .d (tupI rs), x17, x18, x19, x20, .d (tupI ls), x22, x23, x24, x25, x26, x27, x28, x29]) :
    tkB3 Q [.scr ns, .row, .d p.d, .d r.d, x4, x5, x6, x7, .d (choiceD cs), .d (pksD es), x10, .d (.int k), x12, x13, x14, x15, .d (tupI rs), x17, x18, x19, x20, .d (tupI ls), .d (.list ((sums 0 rs).map .int)), .d (.list ((momentsOf r rs ls).map .int)), .d (.list ((evI r rs ls).map .int)), x25, x26, x27, x28, x29] := by
  have l1 := Paired.length hrs
  have l2 := Paired.length hls
  have hn := S.nev
  have hev := S.rok.ev
  have R := S.rows
  have hm : p.writes.length ≤ 8 := S.pok.many
  have hk := S.rok.many
  have s1 : (sums 0 rs).length = p.writes.length := by rw [sums_length]; exact l1.symm
  have s2 : (momentsOf r rs ls).length = r.looks.length := by unfold momentsOf; rw [sums_length]; exact l2.symm
  have hm2 := moments_ticks hrs hls hev
  have sev : (evI r rs ls).length = nEv p r := by unfold evI nEv; rw [List.length_cons, List.length_append, s1, s2]; omega
  have tev : ∀ i, (evI r rs ls).getD i 0 = tickOf r rs ls i := fun i => rfl
  have hz : (r.looks.zip (momentsOf r rs ls)).map (fun q => caseD (lawCase p (sums 0 rs) q.1.cell q.2)) = (lawCases p r rs ls).map caseD := by
    rw [hm2, zip_cases (fun l t => caseD (lawCase p (sums 0 rs) l.cell t))]
    unfold lawCases lookAt
    rw [List.map_map]
    rfl
  have hh := so_held S.hp.rise hev S.ok S.D hrs hls
  unfold tkB3
  generalize evI r rs ls = ev at sev tev ⊢
  unfold choiceD pksD at q ⊢
  walk_at "pd"
  walk_at "pq"
  rw [zip_enc]
  intro _
  refine lcP_enc (fun q : Lk × Int => .tuple [q.1.d, .int q.2]) (fun q => caseD (lawCase p (sums 0 rs) q.1.cell q.2)) _ _ (fun x _ P' p' => ?_) ?_
  · walk_at "pd"
    walk_at "pq"
    exact ⟨p, sums 0 rs, x.1.cell, x.2, rfl, S.pok.inks, s1, by omega, p'⟩
  rw [hz]
  refine ⟨eqOk_cases _ _, ?_⟩
  have ez : PyData.eqv (.list ((lawCases p r rs ls).map caseD)) (.list (cs.map caseD)) = decide (lawCases p r rs ls = cs) := by
    rw [PyData.eqv]; exact eqv_cases _ _
  rw [ez]
  generalize hb : decide (lawCases p r rs ls = cs) = bb at hh q ⊢
  intro _
  refine lcP_encf (fun e : Pk => rowI (rowP3 e)) (fun _ => .int 1) (fun e => decide (tickOf r rs ls (xN e) > tickOf r rs ls (yN e) + e.2)) _ _ (fun e he Pt Pf h => ?_) ?_
  · obtain ⟨ex, hx, ey, hy⟩ := R.x he
    rw [rowI_rowP3, ← ex, ← ey]
    walk_at "pd"
    refine ⟨_, getD_at (by omega) (by omega), ?_⟩
    walk_at "pt"
    refine ⟨_, getD_at (by omega) (by omega), ?_⟩
    rw [show ((xN e : Nat) : Int).toNat = xN e by omega, show ((yN e : Nat) : Int).toNat = yN e by omega, tev, tev]
    walk_at "pt"
    exact h
  · have e1 : (es.filter fun e => decide (tickOf r rs ls (xN e) > tickOf r rs ls (yN e) + e.2)).map (fun _ => PyData.int 1) = ((es.filter fun e => decide (tickOf r rs ls (xN e) > tickOf r rs ls (yN e) + e.2)).map fun _ => (1 : Int)).map PyData.int := by rw [List.map_map]; rfl
    rw [e1]
    refine ⟨by decide, eqOk_intsE _, ?_⟩
    rw [eqv_intsE, show (((es.filter fun e => decide (tickOf r rs ls (xN e) > tickOf r rs ls (yN e) + e.2)).map fun _ => (1 : Int)).isEmpty) = bb from hh]
    simp only [decide_true, Bool.not_true, Bool.false_eq_true, if_false]
    exact q _ _ _ _ _ _ _ _ _
/-- one timetable -/
theorem one_tk (Q : PEnds) (ns : List Int) (p : Plan) (r : Rdr) (cs : List Case) (es : List Pk) (S : S3 p r cs es) (rs ls : List Int) (hrs : Paced p rs) (hls : Rested r ls) (k : Int) (x4 x5 x6 x7 x10 x12 x13 x14 x15 x17 x18 x19 x20 x22 x23 x24 x25 x26 x27 x28 x29 : PV)
    (q : ∀ x7 x12 x13 x14 x22 x23 x24 x25 x29, Q.nx [.scr ns, .row, .d p.d, .d r.d, x4, x5, x6, x7, .d (choiceD cs), .d (pksD es), x10, .d (.int (k + if decide (lawCases p r rs ls = cs) = true then 1 else 0)), x12, x13, x14, x15, .d (tupI rs), x17, x18, x19, x20, .d (tupI ls), x22, x23, x24, x25, x26, x27, x28, x29]) :
    tkB Q [.scr ns, .row, .d p.d, .d r.d, x4, x5, x6, x7, .d (choiceD cs), .d (pksD es), x10, .d (.int k), x12, x13, x14, x15, .d (tupI rs), x17, x18, x19, x20, .d (tupI ls), x22, x23, x24, x25, x26, x27, x28, x29] := by
  have l1 := Paired.length hrs
  have l2 := Paired.length hls
  have hm : p.writes.length ≤ 8 := S.pok.many
  have hk := S.rok.many
  have s1 : (sums 0 rs).length = p.writes.length := by rw [sums_length]; exact l1.symm
  have s2 : (momentsOf r rs ls).length = r.looks.length := by unfold momentsOf; rw [sums_length]; exact l2.symm
  have fin := one_tk3 Q ns p r cs es S rs ls hrs hls k x4 x5 x6 x7 x10 x12 x13 x14 x15 x17 x18 x19 x20 x25 x26 x27 x28 x29 q
  have hst : ∀ P : Dt → Prop, P (.int (startTick r (sums 0 rs))) → dIf (dTest (dBin fIs (dBin fIx (dVar 3) (dC (.int 0))) (dC .none))) (dC (.int 0)) (dBin fIx (dVar 22) (dBin fIx (dVar 3) (dC (.int 0)))) [.scr ns, .row, .d p.d, .d r.d, x4, x5, x6, x7, .d (choiceD cs), .d (pksD es), x10, .d (.int k), x12, x13, x14, x15, .d (tupI rs), x17, x18, x19, x20, .d (tupI ls), .d (.list ((sums 0 rs).map .int)), x23, x24, x25, x26, x27, x28, x29] P := by
    intro P hP
    unfold startTick at hP
    walk_at "pd"
    walk_at "pq"
    cases h : r.start with
    | none =>
      rw [h] at hP
      simp only [numD]
      walk_at "pt"
      exact hP
    | some j =>
      rw [h] at hP
      have hj : j < p.writes.length := S.hr.start j h
      simp only [numD]
      walk_at "pt"
      refine ⟨_, getD_at (by omega) (by omega), ?_⟩
      rw [show ((j : Nat) : Int).toNat = j by omega]
      exact hP
  generalize hD : (dIf (dTest (dBin fIs (dBin fIx (dVar 3) (dC (.int 0))) (dC .none))) (dC (.int 0)) (dBin fIx (dVar 22) (dBin fIx (dVar 3) (dC (.int 0)))) : PT0) = DI at hst
  unfold tkB
  rw [hD]
  generalize tkB3 = T3 at fin ⊢
  have ee : PyData.int 0 :: ((sums 0 rs).map PyData.int ++ (momentsOf r rs ls).map PyData.int) = (evI r rs ls).map .int := by unfold evI; rw [List.map_cons, List.map_append]
  rw [sSeq, sAsg]
  simp only [dCall, vCons, vE, vNil, dVar, dC, List.getElem?_cons_zero, List.getElem?_cons_succ, Option.some.injEq, PV.d.injEq, exists_eq_left']
  refine ⟨rs, 0, _, rfl, .inl rfl, by omega, ?_⟩
  generalize hW : PyData.list ((sums 0 rs).map PyData.int) = W at hst fin ⊢
  walk_at "pd"
  refine hst _ ?_
  refine ⟨ls, startTick r (sums 0 rs), _, rfl, .inl rfl, by omega, ?_⟩
  subst hW
  have e3 : sums (startTick r (sums 0 rs)) ls = momentsOf r rs ls := rfl
  rw [e3]
  walk_at "pt"
  refine ⟨by decide, by rw [line_eq, List.length_map]; omega, by rw [line_eq]; simp only [List.length_cons, List.length_map]; omega, ?_⟩
  rw [ee]
  exact fin
theorem go_inner (Q : PEnds) (ns : List Int) (p : Plan) (r : Rdr) (cs : List Case) (es : List Pk) (S : S3 p r cs es) (rs : List Int) (hrs : Paced p rs) (x4 x5 x6 x10 x15 x17 x18 x19 x20 x26 x27 x28 : PV) :
    ∀ (LS : List (List Int)), (∀ ls ∈ LS, Rested r ls) → ∀ (done : List (List Int × List Int)) (k : Int) (x7 x12 x13 x14 x21 x22 x23 x24 x25 x29 : PV), Tally p r cs done k →
    (∀ k x7 x12 x13 x14 x21 x22 x23 x24 x25 x29, Tally p r cs (done ++ LS.map fun ls => (rs, ls)) k → Q.nx [.scr ns, .row, .d p.d, .d r.d, x4, x5, x6, x7, .d (choiceD cs), .d (pksD es), x10, .d (.int k), x12, x13, x14, x15, .d (tupI rs), x17, x18, x19, x20, x21, x22, x23, x24, x25, x26, x27, x28, x29]) →
    forP (aName 21) tkB Q (LS.map tupI) [.scr ns, .row, .d p.d, .d r.d, x4, x5, x6, x7, .d (choiceD cs), .d (pksD es), x10, .d (.int k), x12, x13, x14, x15, .d (tupI rs), x17, x18, x19, x20, x21, x22, x23, x24, x25, x26, x27, x28, x29]
  | [], _, done, k, x7, x12, x13, x14, x21, x22, x23, x24, x25, x29, T, q => by
    refine q k x7 x12 x13 x14 x21 x22 x23 x24 x25 x29 ?_
    simpa using T
  | ls :: LS, hL, done, k, x7, x12, x13, x14, x21, x22, x23, x24, x25, x29, T, q => by
    have ih := go_inner Q ns p r cs es S rs hrs x4 x5 x6 x10 x15 x17 x18 x19 x20 x26 x27 x28 LS (fun l h => hL l (by simp [h])) (done ++ [(rs, ls)])
    have one := fun Q' q' => one_tk Q' ns p r cs es S rs ls hrs (hL ls (by simp)) k x4 x5 x6 x7 x10 x12 x13 x14 x15 x17 x18 x19 x20 x22 x23 x24 x25 x26 x27 x28 x29 q'
    rw [List.map_cons, forP]
    generalize tkB = B at ih one ⊢
    simp only [aName, List.set_cons_zero, List.set_cons_succ, List.length_cons]
    refine one _ fun y7 y12 y13 y14 y22 y23 y24 y25 y29 => ?_
    refine ih _ _ _ _ _ _ _ _ _ _ _ (T.next rs ls) fun k x7 x12 x13 x14 x21 x22 x23 x24 x25 x29 T' => q _ _ _ _ _ _ _ _ _ _ _ ?_
    rw [List.map_cons]
    simpa using T'
theorem go_outer (Q : PEnds) (t : PTS) (ns : List Int) (p : Plan) (r : Rdr) (cs : List Case) (es : List Pk) (S : S3 p r cs es) (LS : List (List Int)) (hL : ∀ ls ∈ LS, Rested r ls) (hn : LS.length ≤ 1000000) (x4 x5 x6 x10 x17 x18 x19 x20 x26 x27 x28 : PV) :
    ∀ (RS : List (List Int)), (∀ rs ∈ RS, Paced p rs) → ∀ (done : List (List Int × List Int)) (k : Int) (x7 x12 x13 x14 x16 x21 x22 x23 x24 x25 x29 : PV), Tally p r cs done k →
    (∀ k x7 x12 x13 x14 x16 x21 x22 x23 x24 x25 x29, Tally p r cs (done ++ RS.flatMap fun rs => LS.map fun ls => (rs, ls)) k → t Q [.scr ns, .row, .d p.d, .d r.d, x4, x5, x6, x7, .d (choiceD cs), .d (pksD es), x10, .d (.int k), x12, x13, x14, .d (.list (LS.map tupI)), x16, x17, x18, x19, x20, x21, x22, x23, x24, x25, x26, x27, x28, x29]) →
    forP (aName 16) (sFor (dIter (dVar 15)) (aName 21) tkB) { Q with nx := t Q } (RS.map tupI) [.scr ns, .row, .d p.d, .d r.d, x4, x5, x6, x7, .d (choiceD cs), .d (pksD es), x10, .d (.int k), x12, x13, x14, .d (.list (LS.map tupI)), x16, x17, x18, x19, x20, x21, x22, x23, x24, x25, x26, x27, x28, x29]
  | [], _, done, k, x7, x12, x13, x14, x16, x21, x22, x23, x24, x25, x29, T, q => by
    refine q k x7 x12 x13 x14 x16 x21 x22 x23 x24 x25 x29 ?_
    simpa using T
  | rs :: RS, hR, done, k, x7, x12, x13, x14, x16, x21, x22, x23, x24, x25, x29, T, q => by
    have ih := go_outer Q t ns p r cs es S LS hL hn x4 x5 x6 x10 x17 x18 x19 x20 x26 x27 x28 RS (fun l h => hR l (by simp [h])) (done ++ LS.map fun ls => (rs, ls))
    have mid := fun Q' q' => go_inner Q' ns p r cs es S rs (hR rs (by simp)) x4 x5 x6 x10 (.d (.list (LS.map tupI))) x17 x18 x19 x20 x26 x27 x28 LS hL done k x7 x12 x13 x14 x21 x22 x23 x24 x25 x29 T q'
    rw [List.map_cons, forP]
    generalize tkB = B at ih mid ⊢
    simp only [aName, List.set_cons_zero, List.set_cons_succ, List.length_cons]
    show sFor (dIter (dVar 15)) (aName 21) B _ _
    walk_at "pt"
    intro _
    refine mid _ fun k x7 x12 x13 x14 x21 x22 x23 x24 x25 x29 T' => ?_
    refine ih _ _ _ _ _ _ _ _ _ _ _ _ T' fun k x7 x12 x13 x14 x16 x21 x22 x23 x24 x25 x29 T'' => q _ _ _ _ _ _ _ _ _ _ _ _ ?_
    rw [List.flatMap_cons, ← List.append_assoc]
    exact T''
theorem law11 (Q : Dt → Prop) (q : Q (.bool true)) (ns : List Int) (p : Plan) (r : Rdr) (cs : List Case) (es : List Pk) (S : S3 p r cs es) (x4 x5 x6 x7 x12 x13 x14 x16 x17 x18 x19 x20 x21 x22 x23 x24 x25 x26 x27 x28 x29 : PV) :
    lawT11 (PE0 Q) [.scr ns, .row, .d p.d, .d r.d, x4, x5, x6, x7, .d (choiceD cs), .d (pksD es), .own (kt es), .d (.int 0), x12, x13, x14, .d (.list ((allA r.bounds [[]]).map tupI)), x16, x17, x18, x19, x20, x21, x22, x23, x24, x25, x26, x27, x28, x29] := by
  have b1 : BsOk p.bounds := S.hp.bsOk (by decide)
  have w1 : prodW p.bounds ≤ 3 ^ 4 := Nat.le_trans (widths_le S.hp.width) (by
    rw [bounds_len]
    exact Nat.pow_le_pow_right (by decide) (by have := S.hp.many; omega))
  have w2 : prodW r.bounds ≤ 3 ^ 2 := Nat.le_trans (widths_le S.hr.width) (by
    rw [show r.bounds.length = r.looks.length by simp [Rdr.bounds]]
    exact Nat.pow_le_pow_right (by decide) (by have := S.hr.many; omega))
  have hm : p.writes.length ≤ 8 := S.pok.many
  have key := fun k x7 x12 x13 x14 x16 x21 x22 x23 x24 x25 x29 (T : Tally p r cs ([] ++ (allA p.bounds [[]]).flatMap fun rs => (allA r.bounds [[]]).map fun ls => (rs, ls)) k) => law12 Q q ns p r cs es S k T.pos (by
    rw [T.some]
    constructor
    · rintro ⟨x, hx, hc⟩
      rw [List.nil_append, List.mem_flatMap] at hx
      obtain ⟨rs, h1, h2⟩ := hx
      obtain ⟨ls, h3, rfl⟩ := List.mem_map.mp h2
      exact ⟨rs, ls, paced_in.mp (all_in.mp h1), rested_in.mp (all_in.mp h3), hc⟩
    · rintro ⟨rs, ls, a, b, c⟩
      refine ⟨(rs, ls), ?_, c⟩
      rw [List.nil_append, List.mem_flatMap]
      exact ⟨rs, all_in.mpr (paced_in.mpr a), List.mem_map.mpr ⟨ls, all_in.mpr (rested_in.mpr b), rfl⟩⟩) x4 x5 x6 x7 (.d (pksD es)) x12 x13 x14 (.d (.list ((allA r.bounds [[]]).map tupI))) x16 x17 x18 x19 x20 x21 x22 x23 x24 x25 x26 x27 x28 x29
  have main := go_outer (PE0 Q) lawT12 ns p r cs es S (allA r.bounds [[]]) (fun ls h => rested_in.mp (all_in.mp h)) (by rw [allA_len]; simp only [List.length_cons, List.length_nil, Nat.zero_add, Nat.one_mul]; omega) x4 x5 x6 (.own (kt es)) x17 x18 x19 x20 x26 x27 x28 (allA p.bounds [[]]) (fun rs h => paced_in.mp (all_in.mp h)) [] 0 x7 x12 x13 x14 x16 x21 x22 x23 x24 x25 x29 ⟨by decide, by simp⟩ key
  show sSeq (sFor _ _ (sFor _ _ tkB)) lawT12 _ _
  generalize lawT12 = L at main ⊢
  unfold PE0 at main ⊢
  generalize tkB = B at main ⊢
  generalize allA r.bounds [[]] = LS at main ⊢
  rw [sSeq, sFor]
  walk_at "pd"
  exact ⟨p, rfl, by omega, b1, by omega, fun _ => main⟩
theorem law10 (Q : Dt → Prop) (q : Q (.bool true)) (ns : List Int) (p : Plan) (r : Rdr) (cs : List Case) (es : List Pk) (S : S3 p r cs es) (x4 x5 x6 x7 x12 x13 x14 x15 x16 x17 x18 x19 x20 x21 x22 x23 x24 x25 x26 x27 x28 x29 : PV) :
    lawT10 (PE0 Q) [.scr ns, .row, .d p.d, .d r.d, x4, x5, x6, x7, .d (choiceD cs), .d (pksD es), .own (kt es), .d (.int 0), x12, x13, x14, x15, x16, x17, x18, x19, x20, x21, x22, x23, x24, x25, x26, x27, x28, x29] := by
  have key := fun x7 => law11 Q q ns p r cs es S x4 x5 x6 x7 x12 x13 x14 x16 x17 x18 x19 x20 x21 x22 x23 x24 x25 x26 x27 x28 x29
  have b2 : BsOk r.bounds := S.hr.bsOk (by decide)
  have hk := S.rok.many
  have w2 : prodW r.bounds ≤ 3 ^ 2 := Nat.le_trans (widths_le S.hr.width) (by
    rw [show r.bounds.length = r.looks.length by simp [Rdr.bounds]]
    exact Nat.pow_le_pow_right (by decide) (by have := S.hr.many; omega))
  unfold lawT10
  generalize lawT11 = L at key ⊢
  unfold PE0 at key ⊢
  walk_at "pd"
  walk_at "pq"
  intro _
  refine lcP_enc Lk.d (fun l => .tuple [.int l.low, .int l.high]) _ _ (fun l _ P' p' => ?_) ?_
  · walk_at "pd"
    walk_at "pq"
    exact ⟨by decide, p'⟩
  · refine ⟨r.bounds, ?_, by rw [show r.bounds.length = r.looks.length by simp [Rdr.bounds]]; omega, b2, by omega, key _⟩
    unfold boundsD Rdr.bounds
    rw [List.map_map]
    rfl
/-! ### the table -/
def tbB : PTS := (sPutT 10 (dTup (dCons (dVar 12) (dCons (dVar 13) dNil))) (dVar 14))
theorem go_tb (Q : PEnds) (t : PTS) (x0 x1 x2 x3 x4 x5 x6 x7 x8 x9 x11 x15 x16 x17 x18 x19 x20 x21 x22 x23 x24 x25 x26 x27 x28 x29 : PV) : ∀ (es acc : List Pk) (x12 x13 x14 : PV), acc.length + es.length ≤ 1000 →
    (∀ x12 x13 x14, t Q [x0, x1, x2, x3, x4, x5, x6, x7, x8, x9, .own (kt (es.foldl (fun l e => putP l e.1 e.2) acc)), x11, x12, x13, x14, x15, x16, x17, x18, x19, x20, x21, x22, x23, x24, x25, x26, x27, x28, x29]) →
    forP (aTup 3 (aCons (aName 12) (aCons (aName 13) (aCons (aName 14) aNil)))) tbB { Q with nx := t Q } (es.map fun e => rowI (rowP3 e)) [x0, x1, x2, x3, x4, x5, x6, x7, x8, x9, .own (kt acc), x11, x12, x13, x14, x15, x16, x17, x18, x19, x20, x21, x22, x23, x24, x25, x26, x27, x28, x29]
  | [], acc, x12, x13, x14, _, q => q x12 x13 x14
  | e :: es, acc, x12, x13, x14, hl, q => by
    rw [List.length_cons] at hl
    have h1 := putP_len acc e.1 e.2
    have ih := go_tb Q t x0 x1 x2 x3 x4 x5 x6 x7 x8 x9 x11 x15 x16 x17 x18 x19 x20 x21 x22 x23 x24 x25 x26 x27 x28 x29 es (putP acc e.1 e.2) (.d (.int e.1.1)) (.d (.int e.1.2)) (.d (.int e.2)) (by omega) q
    rw [List.map_cons, rowI_rowP3]
    unfold tbB at ih ⊢
    walk_at "pd"
    exact ⟨by decide, by rw [line_eq]; omega, ih⟩
theorem law8 (Q : Dt → Prop) (q : Q (.bool true)) (ns : List Int) (p : Plan) (r : Rdr) (cs : List Case) (es : List Pk) (S : S3 p r cs es) (x4 x5 x6 x7 x10 x11 x12 x13 x14 x15 x16 x17 x18 x19 x20 x21 x22 x23 x24 x25 x26 x27 x28 x29 : PV) :
    lawT8 (PE0 Q) [.scr ns, .row, .d p.d, .d r.d, x4, x5, x6, x7, .d (choiceD cs), .d (pksD es), x10, x11, x12, x13, x14, x15, x16, x17, x18, x19, x20, x21, x22, x23, x24, x25, x26, x27, x28, x29] := by
  have hf := S.few
  have R := S.rows
  have key := fun x12 x13 x14 => law10 Q q ns p r cs es S x4 x5 x6 x7 x12 x13 x14 x15 x16 x17 x18 x19 x20 x21 x22 x23 x24 x25 x26 x27 x28 x29
  have main := fun x12 x13 x14 => go_tb (PE0 Q) lawT10 (.scr ns) .row (.d p.d) (.d r.d) x4 x5 x6 x7 (.d (choiceD cs)) (.d (pksD es)) (.d (.int 0)) x15 x16 x17 x18 x19 x20 x21 x22 x23 x24 x25 x26 x27 x28 x29 es [] x12 x13 x14 (by simp; omega) (by
    rw [putP_fill es [] (by rw [List.nil_append]; exact R.nd)]
    exact key)
  show sSeq _ (sSeq (sFor _ _ tbB) lawT10) _ _
  generalize lawT10 = L at main ⊢
  generalize tbB = B at main ⊢
  unfold PE0 at main ⊢
  unfold pksD at main ⊢
  walk_at "pd"
  exact fun _ => main _ _ _
theorem sorted_rows {es : List Pk} {out : List (List Int)} (hb : ∀ e ∈ es, Bm 100 1000 (rowP3 e)) (hs : es.Pairwise fun a b => rk 100 1000 (rowP3 a) ≤ rk 100 1000 (rowP3 b)) (h1 : out.Perm (es.map rowP3)) (h2 : out.Pairwise fun a b => rk 100 1000 a ≤ rk 100 1000 b) : out = es.map rowP3 := by
  have hm : ∀ a ∈ es.map rowP3, Bm 100 1000 a ∧ a.length = 3 := fun a ha => by
    obtain ⟨e, he, rfl⟩ := List.mem_map.mp ha
    exact ⟨hb e he, rfl⟩
  refine List.Perm.eq_of_pairwise (le := fun a b => rk 100 1000 a ≤ rk 100 1000 b) (fun a b ha hb' k1 k2 => ?_) h2 (List.pairwise_map.mpr hs) h1
  obtain ⟨a1, a2⟩ := hm a (h1.mem_iff.mp ha)
  obtain ⟨b1, b2⟩ := hm b hb'
  exact rk_inj (by rw [a2, b2]) a1 b1 k1 k2
theorem cut_two (a b c : Dt) : cutD [a, b, c] none (some 2) = [a, b] := by
  unfold cutD HT.sIx
  simp
theorem law6 (Q : Dt → Prop) (q : Q (.bool true)) (ns : List Int) (p : Plan) (r : Rdr) (cs : List Case) (hp : Drawn 4 2 p) (hr : RdrDrawn p 2 2 r) (ok : ChoiceOk p r cs) (x4 x5 x6 x7 x9 x10 x11 x12 x13 x14 x15 x16 x17 x18 x19 x20 x21 x22 x23 x24 x25 x26 x27 x28 x29 : PV) :
    lawT6 (PE0 Q) [.scr ns, .row, .d p.d, .d r.d, x4, x5, x6, x7, .d (choiceD cs), x9, x10, x11, x12, x13, x14, x15, x16, x17, x18, x19, x20, x21, x22, x23, x24, x25, x26, x27, x28, x29] := by
  have T := drawn_tame hp hr ok
  have key := fun es D => law8 Q q ns p r cs es ⟨hp, hr, ok, D⟩ x4 x5 x6 x7 x10 x11 x12 x13 x14 x15 x16 x17 x18 x19 x20 x21 x22 x23 x24 x25 x26 x27 x28 x29
  unfold lawT6
  generalize lawT8 = L at key ⊢
  unfold PE0 at key ⊢
  walk_at "pd"
  refine ⟨p, r, cs, rfl, hp.ok (by decide) (by decide), hr.ok (by decide) (by decide), ok, T, fun es D => ?_⟩
  have S : S3 p r cs es := ⟨hp, hr, ok, D⟩
  have hf := S.few
  have hrow : ∀ e ∈ es, Bm 100 1000 (rowP3 e) := fun e he => tame_row T (D.perm.mem_iff.mp he)
  have key := key es D
  unfold pksD at key ⊢
  walk_at "pt"
  have e1 : es.map (fun e => rowI (rowP3 e)) = (es.map rowP3).map rowI := by rw [List.map_map]; rfl
  refine ⟨es.map rowP3, .inr (by rw [e1]), by decide, by rw [List.length_map]; exact hf, fun x hx => ?_, fun out h1 h2 => ?_⟩
  · obtain ⟨e, he, rfl⟩ := List.mem_map.mp hx
    exact ⟨rfl, hrow e he⟩
  rw [sorted_rows hrow D.up h1 h2, e1]
  refine ⟨eqOk_rows _, ?_⟩
  rw [eqv_rows]
  walk_at "pt"
  intro _
  rw [← e1]
  refine lcP_enc (fun e : Pk => rowI (rowP3 e)) (fun e => pairI e.1) _ _ (fun e _ P' p' => ?_) ?_
  · rw [rowI_rowP3]
    walk_at "pd"
    rw [cut_two]
    exact p'
  have e2 : es.map (fun e => pairI e.1) = (keysP es).map pairI := by unfold keysP; rw [List.map_map]; rfl
  rw [e2]
  refine ⟨_, rfl, S.rows.nd, by unfold keysP; rw [List.length_map]; exact hf, ?_⟩
  unfold keysP
  rw [List.length_map, List.length_map]
  walk_at "pt"
  exact key
theorem get_cases {p : Plan} {ls : List Lk} {ys : List Dt} (h : Paired (fun (l : Lk) y => ∃ c, y = caseD c ∧ CaseOk p l.cell c) ls ys) : ∃ cs : List Case, ys = cs.map caseD ∧ cs.length = ls.length ∧ ∀ j, j < ls.length → CaseOk p (ls.getD j ⟨0, 0, 0⟩).cell (cs.getD j (0, none)) := by
  induction h with
  | nil => exact ⟨[], rfl, rfl, by simp⟩
  | cons h t ih =>
    obtain ⟨c, rfl, hc⟩ := h
    obtain ⟨cs, e, h1, h2⟩ := ih
    refine ⟨c :: cs, by rw [e]; rfl, by simp [h1], fun j hj => ?_⟩
    cases j with
    | zero => simpa using hc
    | succ j => simpa using h2 j (by simpa using hj)
theorem law5 (Q : Dt → Prop) (q : Q (.bool true)) (ns : List Int) (p : Plan) (r : Rdr) (hp : Drawn 4 2 p) (hr : RdrDrawn p 2 2 r) (x6 x7 x19 x20 : PV) (o6 : isOwnL x6 = true) (o7 : isOwnL x7 = true) (o19 : isOwnL x19 = true) (o20 : isOwnL x20 = true) :
    lawT5 (PE0 Q) [.scr ns, .row, .d p.d, .d r.d, .own (.list (r.looks.map fun l => .list ((lookCases p l.cell).map caseD))), .d (.int p.writes.length), x6, x7, .un, .un, .un, .un, .un, .un, .un, .un, .un, .un, .un, x19, x20, .un, .un, .un, .un, .un, .un, .un, .un, .un] := by
  have key := fun cs ok x4 x5 x6 x7 x19 x20 x27 => law6 Q q ns p r cs hp hr ok x4 x5 x6 x7 .un .un .un .un .un .un .un .un .un .un x19 x20 .un .un .un .un .un .un x27 .un .un
  have hm : p.writes.length ≤ 8 := (hp.ok (by decide) (by decide)).many
  unfold lawT5
  generalize lawT6 = L at key ⊢
  unfold PE0 at key ⊢
  rw [sSeq, sFrz]
  refine ⟨by simp only [List.all_cons, List.all_nil, o6, o7, o19, o20]; rfl, ?_⟩
  simp only [List.map_cons, List.map_nil, frz]
  generalize PD.frz x6 = x6 at key ⊢
  generalize PD.frz x7 = x7 at key ⊢
  generalize PD.frz x19 = x19 at key ⊢
  generalize PD.frz x20 = x20 at key ⊢
  walk_at "pd"
  intro _
  refine lcP_relE (fun l : Lk => .list ((lookCases p l.cell).map caseD)) (fun l y => ∃ c, y = caseD c ∧ CaseOk p l.cell c) _ _ (fun l _ P' p' => ?_) fun ys hys => ?_
  · walk_at "pd"
    have h1 := cases_len p l.cell
    have h2 : (p.writes.length + 1) * (p.writes.length + 1) ≤ 9 * 9 := Nat.mul_le_mul (by omega) (by omega)
    refine ⟨_, rfl, ?_, by rw [List.length_map]; omega, fun x hx => ?_⟩
    · rw [List.length_map]
      exact List.length_pos_of_mem (mem_cases.mpr (show CaseOk p l.cell (0, none) from ⟨Nat.zero_le _, by simp⟩))
    · obtain ⟨c, hc, rfl⟩ := List.mem_map.mp hx
      exact p' _ ⟨c, rfl, mem_cases.mp hc⟩
  · obtain ⟨cs, rfl, h1, h2⟩ := get_cases hys
    walk_at "pt"
    exact key cs ⟨h1, h2⟩ _ _ _ _ _ _ _
/-! ### the cases of each look -/
def dnB : PTS := (sAsg (dBin fAdd (dBin fAdd (dVar 19) (dLst (dCons (dTup (dCons (dVar 20) (dCons (dC .none) dNil))) dNil))) (dComp (dRng1 (dCons (dVar 20) dNil)) (aName 26) (dTest (dBin fEq (dBin fIx (dBin fIx (dBin fIx (dVar 2) (dC (.int 2))) (dVar 26)) (dC (.int 0))) (dBin fIx (dVar 7) (dC (.int 0))))) (dTup (dCons (dVar 20) (dCons (dVar 26) dNil))) [26])) (aName 19))
def lkB : PTS := (sSeq (sAsg (dLst dNil) (aName 19))
  (sSeq (sFor (dRng1 (dCons (dBin fAdd (dVar 5) (dC (.int 1))) dNil)) (aName 20) dnB)
  (sSeq (sIf (dNot (dTru (dCall F__law_alike (vCons (vE (dCall F_cases (vCons (vE (dVar 2)) (vCons (vE (dVar 3)) (vCons (vE (dVar 6)) vNil))))) (vCons (vE (dApp fTuple (dCons (dVar 19) dNil))) vNil))))) (sRet (dC (.bool false))) sNext)
  (sApp 4 (dVar 19)))))
def e4 (ns : List Int) (p : Plan) (r : Rdr) (x4 x6 x7 x19 x20 : PV) : List PV := [.scr ns, .row, .d p.d, .d r.d, x4, .d (.int p.writes.length), x6, x7, .un, .un, .un, .un, .un, .un, .un, .un, .un, .un, .un, x19, x20, .un, .un, .un, .un, .un, .un, .un, .un, .un]
theorem go_dn (Q : PEnds) (t : PTS) (ns : List Int) (p : Plan) (r : Rdr) (hm : p.writes.length ≤ 8) (l : Lk) (x4 x6 : PV) : ∀ (ds : List Nat), (∀ d ∈ ds, d ≤ p.writes.length) → ∀ (acc : List Case) (x20 : PV), isOwnL x20 = true → acc.length + ds.length * 9 ≤ 1000 →
    (∀ x20, isOwnL x20 = true → t Q (e4 ns p r x4 x6 (.d l.d) (.d (.list ((acc ++ ds.flatMap (casesAt p l.cell)).map caseD))) x20)) →
    forP (aName 20) dnB { Q with nx := t Q } (ds.map fun i : Nat => .int (i : Nat)) (e4 ns p r x4 x6 (.d l.d) (.d (.list (acc.map caseD))) x20)
  | [], _, acc, x20, ho, _, q => by simpa [forP] using q x20 ho
  | d :: ds, hd, acc, x20, ho, hl, q => by
    rw [List.length_cons] at hl
    have h1 := casesAt_len p l.cell d
    have hd0 := hd d (by simp)
    have ih := go_dn Q t ns p r hm l x4 x6 ds (fun e he => hd e (by simp [he])) (acc ++ casesAt p l.cell d) (.d (.int d)) rfl (by rw [List.length_append]; omega) (by simpa using q)
    rw [List.map_cons]
    unfold dnB at ih ⊢
    unfold e4 at ih ⊢
    walk_at "pd"
    refine ⟨by decide, by decide, by rw [line_eq, List.length_map]; omega, by omega, by omega, fun _ => ?_⟩
    rw [show ((d : Nat) : Int).toNat = d by omega, rangeD_nat]
    refine lcP_encf (fun i : Nat => .int (i : Nat)) (fun i : Nat => caseD (d, some i)) (fun k => decide (p.cell k = l.cell)) _ _ (fun i hi Pt Pf h => ?_) ?_
    · have hi := List.mem_range.mp hi
      walk_at "pd"
      walk_at "pq"
      refine wr_atF (by omega) ?_
      walk_at "pq"
      simp only [caseD, numD] at h
      show if decide (p.cell i = l.cell) = true then 2 ≤ sizeLine ∧ _ else _
      by_cases e : p.cell i = l.cell
      · rw [decide_eq_true e] at h ⊢
        exact ⟨by decide, by simpa using h⟩
      · rw [decide_eq_false e] at h ⊢
        simpa using h
    · have e1 : acc.map caseD ++ [PyData.tuple [PyData.int (d : Nat), PyData.none]] ++ ((List.range d).filter fun k => decide (p.cell k = l.cell)).map (fun i : Nat => caseD (d, some i)) = (acc ++ casesAt p l.cell d).map caseD := by
        unfold casesAt
        simp [caseD, numD]
      rw [e1]
      refine ⟨?_, ih⟩
      have := List.length_filter_le (fun k => decide (p.cell k = l.cell)) (List.range d)
      rw [List.length_range] at this
      rw [line_eq]
      simp only [List.length_append, List.length_map, List.length_cons, List.length_nil]
      omega
theorem good_cases (cs : List Case) (h : cs.length ≤ 100000) : good 3 (.tuple (cs.map caseD)) := by
  refine ⟨by simpa using h, fun x hx => ?_⟩
  obtain ⟨c, _, rfl⟩ := List.mem_map.mp hx
  refine ⟨by simp, fun y hy => ?_⟩
  simp only [List.mem_cons, List.not_mem_nil, or_false] at hy
  rcases hy with rfl | rfl
  · trivial
  · cases c.2 <;> trivial
def lotD (p : Plan) (l : Lk) : Dt := .list ((lookCases p l.cell).map caseD)
theorem go_lk (Q : PEnds) (t : PTS) (ns : List Int) (p : Plan) (r : Rdr) (hp : Drawn 4 2 p) (hr : RdrDrawn p 2 2 r) : ∀ (ls pre : List Lk), r.looks = pre ++ ls → ∀ (x6 x7 x19 x20 : PV), isOwnL x6 = true → isOwnL x7 = true → isOwnL x19 = true → isOwnL x20 = true →
    (∀ x6 x7 x19 x20, isOwnL x6 = true → isOwnL x7 = true → isOwnL x19 = true → isOwnL x20 = true → t Q (e4 ns p r (.own (.list (r.looks.map (lotD p)))) x6 x7 x19 x20)) →
    forP (aTup 2 (aCons (aName 6) (aCons (aName 7) aNil))) lkB { Q with nx := t Q } (enumFromD pre.length (ls.map Lk.d)) (e4 ns p r (.own (.list (pre.map (lotD p)))) x6 x7 x19 x20)
  | [], pre, e, x6, x7, x19, x20, h6, h7, h19, h20, q => by
    rw [List.append_nil] at e
    rw [List.map_nil, enumFromD, forP, ← e]
    exact q _ _ _ _ h6 h7 h19 h20
  | l :: ls, pre, e, x6, x7, x19, x20, h6, h7, h19, h20, q => by
    have o := hp.ok (by decide) (by decide)
    have ro := hr.ok (by decide) (by decide)
    have hm : p.writes.length ≤ 8 := o.many
    have hk := ro.many
    have hj : pre.length < r.looks.length := by rw [e]; simp
    have hl : lookAt r pre.length = l := by unfold lookAt; rw [e]; simp
    have hc := cases_len p l.cell
    have hc2 : (p.writes.length + 1) * (p.writes.length + 1) ≤ 9 * 9 := Nat.mul_le_mul (by omega) (by omega)
    have ih := fun x19 x20 h19 h20 => go_lk Q t ns p r hp hr ls (pre ++ [l]) (by rw [e]; simp) (.d (.int pre.length)) (.d l.d) x19 x20 rfl rfl h19 h20 q
    rw [List.length_append, List.length_singleton] at ih
    rw [List.map_cons, enumFromD]
    generalize enumFromD (pre.length + 1) (ls.map Lk.d) = E at ih ⊢
    have mid := fun Q' t' q' => go_dn Q' t' ns p r hm l (.own (.list (pre.map (lotD p)))) (.d (.int pre.length)) (List.range (p.writes.length + 1)) (fun d hd => by have := List.mem_range.mp hd; omega) [] x20 h20 (by rw [List.length_range]; simp; omega) q'
    simp only [List.nil_append] at mid
    have e9 : (List.range (p.writes.length + 1)).flatMap (casesAt p l.cell) = lookCases p l.cell := rfl
    rw [e9] at mid
    unfold lkB at ih ⊢
    generalize dnB = B at ih mid ⊢
    unfold e4 at ih mid ⊢
    walk_at "pd"
    refine ⟨by decide, by omega, by omega, fun _ => ?_⟩
    rw [show ((p.writes.length : Int) + 1).toNat = p.writes.length + 1 by omega, rangeD_nat]
    refine mid _ _ fun x20' h20' => ?_
    walk_at "pd"
    refine ⟨p, r, pre.length, rfl, o, ro, hj, ?_⟩
    rw [hl]
    refine ⟨_, rfl, good_cases _ (by omega), ?_⟩
    refine ⟨true, rfl, ?_⟩
    simp only [Bool.not_true, Bool.false_eq_true, if_false]
    refine ⟨?_, ?_⟩
    · have : pre.length < 3 := by omega
      rw [line_eq, List.length_map]
      omega
    · have := ih (.d (.list ((lookCases p l.cell).map caseD))) x20' rfl h20'
      rw [List.map_append, List.map_singleton] at this
      exact this
theorem law4 (Q : Dt → Prop) (q : Q (.bool true)) (ns : List Int) (p : Plan) (r : Rdr) (hp : Drawn 4 2 p) (hr : RdrDrawn p 2 2 r) :
    lawT4 (PE0 Q) (e4 ns p r (.own (.list [])) .un .un .un .un) := by
  have main := go_lk (PE0 Q) lawT5 ns p r hp hr r.looks [] rfl .un .un .un .un rfl rfl rfl rfl fun x6 x7 x19 x20 h6 h7 h19 h20 => law5 Q q ns p r hp hr x6 x7 x19 x20 h6 h7 h19 h20
  show sSeq (sFor _ _ lkB) lawT5 _ _
  generalize lawT5 = L at main ⊢
  generalize lkB = B at main ⊢
  unfold PE0 at main ⊢
  unfold e4 at main ⊢
  simp only [List.map_nil, List.length_nil] at main
  generalize hE : enumFromD 0 (r.looks.map Lk.d) = E at main
  rw [sSeq, sFor]
  walk_at "pd"
  walk_at "pq"
  rw [hE]
  exact fun _ => main
theorem holds_law : ∀ as Q, F_law as Q → rd_law { nx := fun _ => Q .none, rt := Q } (startP ["script", "row", "plan", "reader", "lots", "n", "at", "look", "choice", "told", "table", "fits", "x", "y", "c", "rests", "pace", "found", "steps", "due", "done", "rest", "writes", "looks", "events", "so", "one", "lot", "step", "tick"] as) := by
  rintro _ Q ⟨ns, rfl, q⟩
  have key := fun p r hp hr => law4 Q q ns p r hp hr
  unfold rd_law
  generalize lawT4 = T at key ⊢
  unfold PE0 e4 at key
  walk_at "pd"
  refine ⟨no_row (by simp), 4, 2, rfl, by decide, by decide, fun p hp => ?_⟩
  have o := hp.ok (by decide) (by decide)
  have om : p.writes.length ≤ 8 := o.many
  have oc := hp.cells
  refine ⟨p, 2, 2, rfl, by omega, by omega, by decide, by decide, fun r hr => ?_⟩
  walk_at "pd"
  walk_at "pq"
  rw [List.length_map]
  exact key p r hp hr

end PF
namespace PF
open PySem PySem.Spec PyProof.Rows L2 PD
def topS (i : Nat) : Stmt := PySem.Challenge.pw_fadinginks_k03_whole_differences.main.body.getD i (.Pass ⟨0, 0, 0, 0⟩)
abbrev s__law_taken : Stmt := topS 36
theorem sc__law_taken : FnScope ["row", "many", "found", "cell"] ["row", "many"] (defScope s__law_taken) := ⟨rfl, rfl, rfl, by decide +kernel, rfl, by decide +kernel, by decide +kernel⟩
section
variable {P' : Program} {w : World} {K : Fg} {mg : Str → Option Value} {base : Heap}
theorem row_at {K : Fg} {H : Hp} {a : Addr} {xs : List V} {i : Int} {v : V} {Q : VK} (h : H a = some (.lst xs)) (e : atI xs i = some v) (q : Q v H) : rIxL K (.ref a) (.int i) H Q := ⟨a, xs, i, v, rfl, rfl, SqL.of h, e, q⟩
theorem ok__law_taken {f : Addr} {fd : FuncData} (Fu : Fun K "_law_taken" "_law_taken" s__law_taken f fd) (B : Blt mg) : FnOk P' w K mg base CX0 1 f fd ["row", "many"] (liftF K Ftaken) := by
  refine Fu.ok sc__law_taken (fun vs H Q E ⟨r, G, as, P, _, A, ⟨n, e, _⟩, _⟩ => (Paired.length A).trans (by subst e; rfl)) fun cdv A outer s H vs Q E hr ⟨r, G, as, P, S, A, ⟨n, e, h0, h1, p⟩, q⟩ => ?_
  subst e
  cases A with
  | cons A1 A2 =>
    cases A2 with
    | cons A2 A3 =>
      cases A3
      obtain ⟨a, rfl, rfl⟩ := A1
      cases A2
      obtain ⟨ga, sa, ns, i, sd, qq, hH, hS, hi⟩ := S.row a rfl
      have gsame : ∀ xs : List V, Same G (upd H a (.lst xs)) := fun xs b o e => by
        rw [upd_ne (ne_of_none e ga)]
        exact S.gh _ _ e
      have nc := sc__law_taken.nd
      refine ⟨_, pss_cons (ps_if (pt_cmpR op_gt (pe_ix ix_list (pv 0) pe_int (fun _ _ => rfl)) pe_int (nomark _))
          (pss_cons (ps_set (i := 2) nc rfl (.inl rfl) (pe_op op_mod (pe_callTy call_int1 (by rfl) B.int (by decide +kernel) (pa_cons (pe_ix ix_list (pv 0) pe_int (fun _ _ => rfl)) pa_nil)) (pv 1)))
          (pss_cons (ps_asg (pe_op op_fdiv (pe_ix ix_list (pv 0) pe_int (fun _ _ => rfl)) (pv 1)) (pg_sub (pv 0) pe_int set_list))
          (pss_one (ps_ret (pv 2))))) pss_nil)
        (pss_cons (ps_asg (pe_op op_add (pe_ix ix_list (pv 0) pe_int (fun _ _ => rfl)) pe_int) (pg_sub (pv 0) pe_int set_list))
        (pss_cons (ps_if (pt_cmpR op_gt (pe_ix ix_list (pv 0) pe_int (fun _ _ => rfl)) (pe_callB call_len_seq (by rfl) B.len PySem.boot_len (pa_cons (pe_ix ix_list (pv 0) pe_int (fun _ _ => rfl)) pa_nil)) (nomark _))
          (pss_cons (ps_asg (pe_op op_mod (pe_callTy call_int1 (by rfl) B.int (by decide +kernel) (pa_cons (pe_op op_add (pe_op op_mul (pe_ix ix_list (pv 0) pe_int (fun _ _ => rfl)) pe_int) pe_int) pa_nil)) pe_int) (pg_sub (pv 0) pe_int set_list))
          (pss_one (ps_ret (pe_op op_mod (pe_callTy call_int1 (by rfl) B.int (by decide +kernel) (pa_cons (pe_op op_fdiv (pe_ix ix_list (pv 0) pe_int (fun _ _ => rfl)) pe_int) pa_nil)) (pv 1))))) pss_nil)
        (pss_cons (ps_set (i := 3) nc rfl (.inl rfl) (pe_ix ix_list (pe_ix ix_list (pv 0) pe_int (fun _ _ => rfl)) (pe_op op_sub (pe_ix ix_list (pv 0) pe_int (fun _ _ => rfl)) pe_int) (fun _ _ => rfl)))
        (pss_cons (ps_asg (pe_op op_mod (pe_callTy call_int1 (by rfl) B.int (by decide +kernel) (pa_cons (pe_op op_add (pe_op op_add (pe_op op_mul (pe_ix ix_list (pv 0) pe_int (fun _ _ => rfl)) pe_int) (pv 3)) pe_int) pa_nil)) pe_int) (pg_sub (pv 0) pe_int set_list))
        (pss_cons (ps_if (pt_cmpR op_ge (pv 3) (pe_op op_pow pe_int pe_int) (nomark _)) (pss_one (ps_asg (pe_op op_fdiv (pv 3) (pv 1)) (pg_sub (pv 0) pe_int set_list))) pss_nil)
        (pss_one (ps_ret (pe_op op_mod (pe_callTy call_int1 (by rfl) B.int (by decide +kernel) (pa_cons (pv 3) pa_nil)) (pv 1))))))))), ?_⟩
      have fin : ∀ (H' : Hp) (i' s' q' x : Int), H' a = some (.lst [.ref sa, .int i', .int s', .int q']) → 0 ≤ i' → (∀ b, b ≠ a → H' b = H b) → Q (.int (x % n)) H' := fun H' i' s' q' x e h2 k =>
        q (.int _) (.int _) G _ (p _ (mod_in h0).1 (mod_in h0).2) (row_grow S e hS h2 k) (.int _)
      refine ⟨.ref a, rfl, a, _, 3, .int qq, rfl, rfl, SqL.of hH, rfl, _, _, rfl, rfl, _, rfl, ite2 (fun c => ?_) (fun c => ?_)⟩
      · -- the rest of a great cell
        refine ⟨.ref a, rfl, a, _, 3, .int qq, rfl, rfl, SqL.of hH, rfl, .inl ⟨qq, rfl, .int n, rfl, qq, n, rfl, rfl, h0, ?_⟩⟩
        refine ⟨.ref a, rfl, a, _, 3, .int qq, rfl, rfl, SqL.of hH, rfl, .int n, rfl, qq, n, rfl, rfl, ⟨h0, h1⟩, .ref a, rfl, a, _, 3, 3, rfl, rfl, hH, rfl, ?_⟩
        exact ⟨_, rfl, fin _ i sd _ qq upd_same hi fun b hb => upd_ne hb⟩
      · -- row[1] = row[1] + 1
        refine ⟨.ref a, rfl, a, _, 1, .int i, rfl, rfl, SqL.of hH, rfl, i, 1, rfl, rfl, .ref a, rfl, a, _, 1, 1, rfl, rfl, hH, rfl, ?_⟩
        refine ⟨.ref a, rfl, a, _, 1, .int (i + 1), rfl, rfl, SqL.of upd_same, rfl, .ref a, rfl, a, _, 0, .ref sa, rfl, rfl, SqL.of upd_same, rfl, sa, ns.map V.int, rfl, .inl ((gsame _).seq hS), _, _, rfl, rfl, _, rfl, ite2 (fun c => ?_) (fun c => ?_)⟩
        · -- beyond the script
          refine ⟨.ref a, rfl, a, _, 2, .int sd, rfl, rfl, SqL.of upd_same, rfl, _, _, rfl, rfl, .inr (by decide), _, _, rfl, rfl, .inl ⟨_, rfl, _, _, rfl, rfl, (by show (0 : Int) < 2147483647; decide), .ref a, rfl, a, _, 2, 2, rfl, rfl, upd_same, rfl, ?_⟩⟩
          refine ⟨.ref a, rfl, a, _, 2, _, rfl, rfl, SqL.of upd_same, rfl, _, _, rfl, rfl, ⟨by decide, by decide⟩, .inl ⟨_, rfl, .int n, rfl, _, n, rfl, rfl, h0, ?_⟩⟩
          exact fin _ (i + 1) _ qq _ upd_same (by omega) fun b hb => (upd_ne hb).trans (upd_ne hb)
        · -- a cell of the script
          have hc : i + 1 ≤ (ns.length : Int) := by
            have := of_decide_eq_false (Bool.eq_false_iff.mpr c)
            rw [List.length_map] at this
            omega
          have hlt : i.toNat < ns.length := by omega
          have hat : atI (ns.map V.int) (i + 1 - 1) = some (.int ns[i.toNat]) := by
            have e : i + 1 - 1 = ((i.toNat : Nat) : Int) := by omega
            rw [e]
            refine atI_nat ?_
            rw [List.getElem?_map, List.getElem?_eq_getElem hlt]
            rfl
          refine ⟨.ref a, rfl, a, _, 0, .ref sa, rfl, rfl, SqL.of upd_same, rfl, .ref a, rfl, a, _, 1, .int (i + 1), rfl, rfl, SqL.of upd_same, rfl, _, _, rfl, rfl, sa, _, _, _, rfl, rfl, (gsame _).seq hS, hat, ?_⟩
          generalize ns[i.toNat] = cl
          refine ⟨.ref a, rfl, a, _, 2, .int sd, rfl, rfl, SqL.of upd_same, rfl, _, _, rfl, rfl, .inr (by decide), .int cl, rfl, _, _, rfl, rfl, _, _, rfl, rfl, .inl ⟨_, rfl, _, _, rfl, rfl, (by show (0 : Int) < 2147483647; decide), .ref a, rfl, a, _, 2, 2, rfl, rfl, upd_same, rfl, ?_⟩⟩
          refine ⟨.int cl, rfl, _, _, rfl, rfl, ⟨by decide, by decide, by decide⟩, _, _, rfl, rfl, _, rfl, ite2 (fun c2 => ?_) (fun c2 => ?_)⟩
          · refine ⟨.int cl, rfl, .int n, rfl, _, _, rfl, rfl, ⟨h0, h1⟩, .ref a, rfl, a, _, 3, 3, rfl, rfl, upd_same, rfl, ?_⟩
            refine ⟨.int cl, rfl, .inl ⟨_, rfl, .int n, rfl, _, n, rfl, rfl, h0, ?_⟩⟩
            exact fin _ (i + 1) _ _ _ upd_same (by omega) fun b hb => (upd_ne hb).trans ((upd_ne hb).trans (upd_ne hb))
          · refine ⟨.int cl, rfl, .inl ⟨_, rfl, .int n, rfl, _, n, rfl, rfl, h0, ?_⟩⟩
            exact fin _ (i + 1) _ _ _ upd_same (by omega) fun b hb => (upd_ne hb).trans (upd_ne hb)
end
section
variable {P : Program} {w : World} {K : Fg} {mg : Str → Option Value} {base : Heap}
abbrev s__law_pick : Stmt := topS 37
theorem sc__law_pick : FnScope ["row", "things"] ["row", "things"] (defScope s__law_pick) := ⟨rfl, rfl, rfl, by decide +kernel, rfl, by decide +kernel, by decide +kernel⟩
theorem ok__law_pick {f : Addr} {fd : FuncData} (Fu : Fun K "_law_pick" "_law_pick" s__law_pick f fd) (B : Blt mg) {f__law_taken : Addr} {d__law_taken : FuncData} (D__law_taken : Df K mg "_law_taken" s__law_taken ["row", "many"] f__law_taken d__law_taken) (G__law_taken : FnOk P w K mg base CX0 1 f__law_taken d__law_taken ["row", "many"] (liftF K F__law_taken)) : FnOk P w K mg base CX0 2 f fd ["row", "things"] (liftF K F__law_pick) :=
  fd_ok F__law_pick Fu sc__law_pick len__law_pick fun cdv A outer s H E hr => ⟨rd__law_pick, (dss_one (ds_ret (de_ix (de_var 1) (df_call D__law_taken G__law_taken hr (das_cons (dv_row 0) (das_cons (dv_e (de_callB dc_len (by rfl) B.len (by decide +kernel) (da_cons (de_var 1) da_nil))) das_nil)))))), holds__law_pick⟩
abbrev s__law_plan : Stmt := topS 39
theorem sc__law_plan : FnScope ["row", "most", "wide", "cells", "inks", "stays", "writes", "turn", "low", "sign", "ink"] ["row", "most", "wide"] (defScope s__law_plan) := ⟨rfl, rfl, rfl, by decide +kernel, rfl, by decide +kernel, by decide +kernel⟩
theorem ok__law_plan {f : Addr} {fd : FuncData} (Fu : Fun K "_law_plan" "_law_plan" s__law_plan f fd) (B : Blt mg) {f__law_taken : Addr} {d__law_taken : FuncData} (D__law_taken : Df K mg "_law_taken" s__law_taken ["row", "many"] f__law_taken d__law_taken) (G__law_taken : FnOk P w K mg base CX0 1 f__law_taken d__law_taken ["row", "many"] (liftF K F__law_taken)) {f__law_pick : Addr} {d__law_pick : FuncData} (D__law_pick : Df K mg "_law_pick" s__law_pick ["row", "things"] f__law_pick d__law_pick) (G__law_pick : FnOk P w K mg base CX0 2 f__law_pick d__law_pick ["row", "things"] (liftF K F__law_pick)) : FnOk P w K mg base CX0 3 f fd ["row", "most", "wide"] (liftF K F__law_plan) :=
  fd_ok F__law_plan Fu sc__law_plan len__law_plan fun cdv A outer s H E hr => ⟨rd__law_plan, (dss_cons (ds_par 3 4 rfl sc__law_plan.nd (da_cons (de_op do_add de_int (df_call D__law_taken G__law_taken hr (das_cons (dv_row 0) (das_cons (dv_e de_int) das_nil)))) (da_cons (de_op do_add de_int (df_call D__law_taken G__law_taken hr (das_cons (dv_row 0) (das_cons (dv_e de_int) das_nil)))) da_nil)))
      (dss_cons (ds_set 5 sc__law_plan.nd (de_callT dc_tuple (by rfl) B.tuple (by decide +kernel) (da_cons (de_lc [("ink", 10)] rfl sc__law_plan.nd (di_range1 B.range (da_cons (de_var 4) da_nil)) (fun _ _ _ _ _ => (dg_name 10 sc__law_plan.nd)) (fun _ _ _ _ _ => dts_nil) (fun _ _ _ _ _ => (de_op do_add de_int (df_call D__law_taken G__law_taken hr (das_cons (dv_row 0) (das_cons (dv_e de_int) das_nil))))) (by exact (show blkC ["row", "most", "wide", "cells", "inks", "stays", "writes", "turn", "low", "sign", "ink"] (defScope s__law_plan) _ [("ink", 10)] = true by decide +kernel))) da_nil)))
      (dss_cons (ds_ownL 6 sc__law_plan.nd da_nil)
      (dss_cons (ds_for PassesOwn.never rfl (di_range1 B.range (da_cons (df_call D__law_taken G__law_taken hr (das_cons (dv_row 0) (das_cons (dv_e (de_op do_add (de_var 1) de_int)) das_nil))) da_nil)) (dg_name 7 sc__law_plan.nd) (dss_cons (ds_set 8 sc__law_plan.nd (df_call D__law_pick G__law_pick hr (das_cons (dv_row 0) (das_cons (dv_e (de_lst (da_cons de_int (da_cons de_int (da_cons de_int (da_cons de_int (da_cons de_int da_nil))))))) das_nil))))
      (dss_cons (ds_set 9 sc__law_plan.nd (df_call D__law_pick G__law_pick hr (das_cons (dv_row 0) (das_cons (dv_e (de_lst (da_cons de_str (da_cons de_str (da_cons de_str da_nil))))) das_nil))))
      (dss_one (ds_app 6 (de_tup (da_cons (df_call D__law_taken G__law_taken hr (das_cons (dv_row 0) (das_cons (dv_e (de_var 3)) das_nil))) (da_cons (de_var 9) (da_cons (df_call D__law_taken G__law_taken hr (das_cons (dv_row 0) (das_cons (dv_e (de_var 4)) das_nil))) (da_cons (de_var 8) (da_cons (de_op do_add (de_var 8) (df_call D__law_taken G__law_taken hr (das_cons (dv_row 0) (das_cons (dv_e (de_op do_add (de_var 2) de_int)) das_nil)))) da_nil)))))))))))
      (dss_one (ds_ret (de_tup (da_cons (de_var 3) (da_cons (de_var 5) (da_cons (de_callT dc_tuple (by rfl) B.tuple (by decide +kernel) (da_cons (de_var 6) da_nil)) da_nil)))))))))), holds__law_plan⟩
abbrev s__law_reader : Stmt := topS 40
theorem sc__law_reader : FnScope ["row", "plan", "most", "wide", "start", "looks", "turn", "low"] ["row", "plan", "most", "wide"] (defScope s__law_reader) := ⟨rfl, rfl, rfl, by decide +kernel, rfl, by decide +kernel, by decide +kernel⟩
theorem ok__law_reader {f : Addr} {fd : FuncData} (Fu : Fun K "_law_reader" "_law_reader" s__law_reader f fd) (B : Blt mg) {f__law_taken : Addr} {d__law_taken : FuncData} (D__law_taken : Df K mg "_law_taken" s__law_taken ["row", "many"] f__law_taken d__law_taken) (G__law_taken : FnOk P w K mg base CX0 1 f__law_taken d__law_taken ["row", "many"] (liftF K F__law_taken)) : FnOk P w K mg base CX0 2 f fd ["row", "plan", "most", "wide"] (liftF K F__law_reader) :=
  fd_ok F__law_reader Fu sc__law_reader len__law_reader fun cdv A outer s H E hr => ⟨rd__law_reader, (dss_cons (ds_set 4 sc__law_reader.nd (de_op do_sub (df_call D__law_taken G__law_taken hr (das_cons (dv_row 0) (das_cons (dv_e (de_op do_add (de_callB dc_len (by rfl) B.len (by decide +kernel) (da_cons (de_ix (de_var 1) de_int) da_nil)) de_int)) das_nil))) de_int))
      (dss_cons (ds_ownL 5 sc__law_reader.nd da_nil)
      (dss_cons (ds_for PassesOwn.never rfl (di_range1 B.range (da_cons (de_op do_add de_int (df_call D__law_taken G__law_taken hr (das_cons (dv_row 0) (das_cons (dv_e (de_var 2)) das_nil)))) da_nil)) (dg_name 6 sc__law_reader.nd) (dss_cons (ds_set 7 sc__law_reader.nd (df_call D__law_taken G__law_taken hr (das_cons (dv_row 0) (das_cons (dv_e de_int) das_nil))))
      (dss_one (ds_app 5 (de_tup (da_cons (df_call D__law_taken G__law_taken hr (das_cons (dv_row 0) (das_cons (dv_e (de_ix (de_var 1) de_int)) das_nil))) (da_cons (de_var 7) (da_cons (de_op do_add (de_var 7) (df_call D__law_taken G__law_taken hr (das_cons (dv_row 0) (das_cons (dv_e (de_op do_add (de_var 3) de_int)) das_nil)))) da_nil))))))))
      (dss_one (ds_ret (de_tup (da_cons (de_if (dt_cmp do_ge (de_var 4) de_int) (de_var 4) de_non) (da_cons (de_callT dc_tuple (by rfl) B.tuple (by decide +kernel) (da_cons (de_var 5) da_nil)) da_nil)))))))), holds__law_reader⟩
abbrev s_is_row : Stmt := topS 8
theorem sc_is_row : FnScope ["value", "least", "most"] ["value", "least", "most"] (defScope s_is_row) := ⟨rfl, rfl, rfl, by decide +kernel, rfl, by decide +kernel, by decide +kernel⟩
theorem ok_is_row {f : Addr} {fd : FuncData} (Fu : Fun K "is_row" "is_row" s_is_row f fd) (B : Blt mg) : FnOk P w K mg base CX0 1 f fd ["value", "least", "most"] (liftF K F_is_row) :=
  fd_ok F_is_row Fu sc_is_row len_is_row fun cdv A outer s H E hr => ⟨rd_is_row, (dss_one (ds_ret (de_and (de_isi kit_tup (de_var 0) B.isinstance B.tuple (by decide +kernel)) (de_one (de_chain do_le do_le (de_var 1) (de_callB dc_len (by rfl) B.len (by decide +kernel) (da_cons (de_var 0) da_nil)) (de_var 2)))))), holds_is_row⟩
abbrev s_is_whole : Stmt := topS 7
theorem sc_is_whole : FnScope ["value", "low", "high"] ["value", "low", "high"] (defScope s_is_whole) := ⟨rfl, rfl, rfl, by decide +kernel, rfl, by decide +kernel, by decide +kernel⟩
theorem ok_is_whole {f : Addr} {fd : FuncData} (Fu : Fun K "is_whole" "is_whole" s_is_whole f fd) (B : Blt mg) : FnOk P w K mg base CX0 1 f fd ["value", "low", "high"] (liftF K F_is_whole) :=
  fd_ok F_is_whole Fu sc_is_whole len_is_whole fun cdv A outer s H E hr => ⟨rd_is_whole, (dss_one (ds_ret (de_and (de_isi kit_int (de_var 0) B.isinstance B.int (by decide +kernel)) (de_and (de_not (de_isi kit_bool (de_var 0) B.isinstance B.bool (by decide +kernel))) (de_one (de_chain do_le do_le (de_var 1) (de_var 0) (de_var 2))))))), holds_is_whole⟩
abbrev s_is_span : Stmt := topS 10
theorem sc_is_span : FnScope ["low", "high", "most"] ["low", "high", "most"] (defScope s_is_span) := ⟨rfl, rfl, rfl, by decide +kernel, rfl, by decide +kernel, by decide +kernel⟩
theorem ok_is_span {f : Addr} {fd : FuncData} (Fu : Fun K "is_span" "is_span" s_is_span f fd) (B : Blt mg) {f_is_whole : Addr} {d_is_whole : FuncData} (D_is_whole : Df K mg "is_whole" s_is_whole ["value", "low", "high"] f_is_whole d_is_whole) (G_is_whole : FnOk P w K mg base CX0 1 f_is_whole d_is_whole ["value", "low", "high"] (liftF K F_is_whole)) : FnOk P w K mg base CX0 2 f fd ["low", "high", "most"] (liftF K F_is_span) :=
  fd_ok F_is_span Fu sc_is_span len_is_span fun cdv A outer s H E hr => ⟨rd_is_span, (dss_one (ds_ret (de_and (df_call D_is_whole G_is_whole hr (das_cons (dv_e (de_var 0)) (das_cons (dv_e de_int) (das_cons (dv_e (de_var 2)) das_nil)))) (de_one (df_call D_is_whole G_is_whole hr (das_cons (dv_e (de_var 1)) (das_cons (dv_e (de_var 0)) (das_cons (dv_e (de_var 2)) das_nil)))))))), holds_is_span⟩
abbrev s_is_letter : Stmt := topS 9
theorem sc_is_letter : FnScope ["value"] ["value"] (defScope s_is_letter) := ⟨rfl, rfl, rfl, by decide +kernel, rfl, by decide +kernel, by decide +kernel⟩
theorem ok_is_letter {f : Addr} {fd : FuncData} (Fu : Fun K "is_letter" "is_letter" s_is_letter f fd) (B : Blt mg) : FnOk P w K mg base CX0 1 f fd ["value"] (liftF K F_is_letter) :=
  fd_ok F_is_letter Fu sc_is_letter len_is_letter fun cdv A outer s H E hr => ⟨rd_is_letter, (dss_one (ds_ret (de_and (de_isi kit_str (de_var 0) B.isinstance B.str (by decide +kernel)) (de_and (de_cmp (do_eq hr.units) (de_callB dc_len (by rfl) B.len (by decide +kernel) (da_cons (de_var 0) da_nil)) de_int) (de_one (de_chain do_le do_le de_str (de_var 0) de_str)))))), holds_is_letter⟩
abbrev s_is_write : Stmt := topS 13
theorem sc_is_write : FnScope ["value", "cells", "inks", "cell", "sign", "ink", "low", "high"] ["value", "cells", "inks"] (defScope s_is_write) := ⟨rfl, rfl, rfl, by decide +kernel, rfl, by decide +kernel, by decide +kernel⟩
theorem ok_is_write {f : Addr} {fd : FuncData} (Fu : Fun K "is_write" "is_write" s_is_write f fd) (B : Blt mg) {f_is_span : Addr} {d_is_span : FuncData} (D_is_span : Df K mg "is_span" s_is_span ["low", "high", "most"] f_is_span d_is_span) (G_is_span : FnOk P w K mg base CX0 2 f_is_span d_is_span ["low", "high", "most"] (liftF K F_is_span)) {f_is_row : Addr} {d_is_row : FuncData} (D_is_row : Df K mg "is_row" s_is_row ["value", "least", "most"] f_is_row d_is_row) (G_is_row : FnOk P w K mg base CX0 1 f_is_row d_is_row ["value", "least", "most"] (liftF K F_is_row)) {f_is_whole : Addr} {d_is_whole : FuncData} (D_is_whole : Df K mg "is_whole" s_is_whole ["value", "low", "high"] f_is_whole d_is_whole) (G_is_whole : FnOk P w K mg base CX0 1 f_is_whole d_is_whole ["value", "low", "high"] (liftF K F_is_whole)) {f_is_letter : Addr} {d_is_letter : FuncData} (D_is_letter : Df K mg "is_letter" s_is_letter ["value"] f_is_letter d_is_letter) (G_is_letter : FnOk P w K mg base CX0 1 f_is_letter d_is_letter ["value"] (liftF K F_is_letter)) : FnOk P w K mg base CX0 3 f fd ["value", "cells", "inks"] (liftF K F_is_write) :=
  fd_ok F_is_write Fu sc_is_write len_is_write fun cdv A outer s H E hr => ⟨rd_is_write, (dss_cons (ds_if (dt_not (dt_truth (df_call D_is_row G_is_row hr (das_cons (dv_e (de_var 0)) (das_cons (dv_e de_int) (das_cons (dv_e de_int) das_nil)))))) (dss_one (ds_ret de_bl)) dss_nil)
      (dss_cons (ds_asg (de_var 0) (dg_tup rfl (dgs_cons (dg_name 3 sc_is_write.nd) (dgs_cons (dg_name 4 sc_is_write.nd) (dgs_cons (dg_name 5 sc_is_write.nd) (dgs_cons (dg_name 6 sc_is_write.nd) (dgs_cons (dg_name 7 sc_is_write.nd) dgs_nil)))))))
      (dss_cons (ds_if (dw_pt (dw_or (dt_not (dt_truth (df_call D_is_whole G_is_whole hr (das_cons (dv_e (de_var 3)) (das_cons (dv_e de_int) (das_cons (dv_e (de_op do_sub (de_var 1) de_int)) das_nil)))))) (dw_or (dt_not (dt_truth (df_call D_is_letter G_is_letter hr (das_cons (dv_e (de_var 4)) das_nil)))) (dw_or1 (dt_not (dt_truth (df_call D_is_whole G_is_whole hr (das_cons (dv_e (de_var 5)) (das_cons (dv_e de_int) (das_cons (dv_e (de_op do_sub (de_var 2) de_int)) das_nil)))))))))) (dss_one (ds_ret de_bl)) dss_nil)
      (dss_one (ds_ret (df_call D_is_span G_is_span hr (das_cons (dv_e (de_var 6)) (das_cons (dv_e (de_var 7)) (das_cons (dv_e de_int) das_nil))))))))), holds_is_write⟩
abbrev s_is_plan : Stmt := topS 12
theorem sc_is_plan : FnScope ["value", "cells", "stays", "writes", "write", "stay"] ["value"] (defScope s_is_plan) := ⟨rfl, rfl, rfl, by decide +kernel, rfl, by decide +kernel, by decide +kernel⟩
theorem ok_is_plan {f : Addr} {fd : FuncData} (Fu : Fun K "is_plan" "is_plan" s_is_plan f fd) (B : Blt mg) {f_is_row : Addr} {d_is_row : FuncData} (D_is_row : Df K mg "is_row" s_is_row ["value", "least", "most"] f_is_row d_is_row) (G_is_row : FnOk P w K mg base CX0 1 f_is_row d_is_row ["value", "least", "most"] (liftF K F_is_row)) {f_is_whole : Addr} {d_is_whole : FuncData} (D_is_whole : Df K mg "is_whole" s_is_whole ["value", "low", "high"] f_is_whole d_is_whole) (G_is_whole : FnOk P w K mg base CX0 1 f_is_whole d_is_whole ["value", "low", "high"] (liftF K F_is_whole)) {f_is_write : Addr} {d_is_write : FuncData} (D_is_write : Df K mg "is_write" s_is_write ["value", "cells", "inks"] f_is_write d_is_write) (G_is_write : FnOk P w K mg base CX0 3 f_is_write d_is_write ["value", "cells", "inks"] (liftF K F_is_write)) : FnOk P w K mg base CX0 4 f fd ["value"] (liftF K F_is_plan) :=
  fd_ok F_is_plan Fu sc_is_plan len_is_plan fun cdv A outer s H E hr => ⟨rd_is_plan, (dss_cons (ds_if (dt_not (dt_truth (df_call D_is_row G_is_row hr (das_cons (dv_e (de_var 0)) (das_cons (dv_e de_int) (das_cons (dv_e de_int) das_nil)))))) (dss_one (ds_ret de_bl)) dss_nil)
      (dss_cons (ds_asg (de_var 0) (dg_tup rfl (dgs_cons (dg_name 1 sc_is_plan.nd) (dgs_cons (dg_name 2 sc_is_plan.nd) (dgs_cons (dg_name 3 sc_is_plan.nd) dgs_nil)))))
      (dss_cons (ds_if (dw_pt (dw_or (dt_not (dt_truth (df_call D_is_whole G_is_whole hr (das_cons (dv_e (de_var 1)) (das_cons (dv_e de_int) (das_cons (dv_e de_int) das_nil)))))) (dw_or (dt_not (dt_truth (df_call D_is_row G_is_row hr (das_cons (dv_e (de_var 2)) (das_cons (dv_e de_int) (das_cons (dv_e de_int) das_nil)))))) (dw_or1 (dt_not (dt_truth (df_call D_is_row G_is_row hr (das_cons (dv_e (de_var 3)) (das_cons (dv_e de_int) (das_cons (dv_e de_int) das_nil)))))))))) (dss_one (ds_ret de_bl)) dss_nil)
      (dss_cons (ds_if (dt_not (dt_truth (de_callB (dc_all rfl) (by rfl) B.all (by decide +kernel) (da_cons (de_lc [("stay", 5)] rfl sc_is_plan.nd (di_any (de_var 2)) (fun _ _ _ _ _ => (dg_name 5 sc_is_plan.nd)) (fun _ _ _ _ _ => dts_nil) (fun _ _ _ _ _ => (df_call D_is_whole G_is_whole hr (das_cons (dv_e (de_var 5)) (das_cons (dv_e de_int) (das_cons (dv_e de_int) das_nil))))) (by exact (show blkC ["value", "cells", "stays", "writes", "write", "stay"] (defScope s_is_plan) _ [("stay", 5)] = true by decide +kernel))) da_nil)))) (dss_one (ds_ret de_bl)) dss_nil)
      (dss_one (ds_ret (de_callB (dc_all rfl) (by rfl) B.all (by decide +kernel) (da_cons (de_lc [("write", 4)] rfl sc_is_plan.nd (di_any (de_var 3)) (fun _ _ _ _ _ => (dg_name 4 sc_is_plan.nd)) (fun _ _ _ _ _ => dts_nil) (fun _ _ _ _ _ => (df_call D_is_write G_is_write hr (das_cons (dv_e (de_var 4)) (das_cons (dv_e (de_var 1)) (das_cons (dv_e (de_callB dc_len (by rfl) B.len (by decide +kernel) (da_cons (de_var 2) da_nil))) das_nil))))) (by exact (show blkC ["value", "cells", "stays", "writes", "write", "stay"] (defScope s_is_plan) _ [("write", 4)] = true by decide +kernel))) da_nil)))))))), holds_is_plan⟩
abbrev s_check_plan : Stmt := topS 15
theorem sc_check_plan : FnScope ["plan"] ["plan"] (defScope s_check_plan) := ⟨rfl, rfl, rfl, by decide +kernel, rfl, by decide +kernel, by decide +kernel⟩
theorem ok_check_plan {f : Addr} {fd : FuncData} (Fu : Fun K "check_plan" "check_plan" s_check_plan f fd) (B : Blt mg) {f_is_plan : Addr} {d_is_plan : FuncData} (D_is_plan : Df K mg "is_plan" s_is_plan ["value"] f_is_plan d_is_plan) (G_is_plan : FnOk P w K mg base CX0 4 f_is_plan d_is_plan ["value"] (liftF K F_is_plan)) : FnOk P w K mg base CX0 5 f fd ["plan"] (liftF K F_check_plan) :=
  fd_ok F_check_plan Fu sc_check_plan len_check_plan fun cdv A outer s H E hr => ⟨rd_check_plan, (dss_one (ds_if (dt_not (dt_truth (df_call D_is_plan G_is_plan hr (das_cons (dv_e (de_var 0)) das_nil)))) (dss_one ds_never) dss_nil)), holds_check_plan⟩
abbrev s_is_look : Stmt := topS 21
theorem sc_is_look : FnScope ["plan", "value", "cell", "low", "high"] ["plan", "value"] (defScope s_is_look) := ⟨rfl, rfl, rfl, by decide +kernel, rfl, by decide +kernel, by decide +kernel⟩
theorem ok_is_look {f : Addr} {fd : FuncData} (Fu : Fun K "is_look" "is_look" s_is_look f fd) (B : Blt mg) {f_is_row : Addr} {d_is_row : FuncData} (D_is_row : Df K mg "is_row" s_is_row ["value", "least", "most"] f_is_row d_is_row) (G_is_row : FnOk P w K mg base CX0 1 f_is_row d_is_row ["value", "least", "most"] (liftF K F_is_row)) {f_is_whole : Addr} {d_is_whole : FuncData} (D_is_whole : Df K mg "is_whole" s_is_whole ["value", "low", "high"] f_is_whole d_is_whole) (G_is_whole : FnOk P w K mg base CX0 1 f_is_whole d_is_whole ["value", "low", "high"] (liftF K F_is_whole)) {f_is_span : Addr} {d_is_span : FuncData} (D_is_span : Df K mg "is_span" s_is_span ["low", "high", "most"] f_is_span d_is_span) (G_is_span : FnOk P w K mg base CX0 2 f_is_span d_is_span ["low", "high", "most"] (liftF K F_is_span)) : FnOk P w K mg base CX0 3 f fd ["plan", "value"] (liftF K F_is_look) :=
  fd_ok F_is_look Fu sc_is_look len_is_look fun cdv A outer s H E hr => ⟨rd_is_look, (dss_cons (ds_if (dt_not (dt_truth (df_call D_is_row G_is_row hr (das_cons (dv_e (de_var 1)) (das_cons (dv_e de_int) (das_cons (dv_e de_int) das_nil)))))) (dss_one (ds_ret de_bl)) dss_nil)
      (dss_cons (ds_asg (de_var 1) (dg_tup rfl (dgs_cons (dg_name 2 sc_is_look.nd) (dgs_cons (dg_name 3 sc_is_look.nd) (dgs_cons (dg_name 4 sc_is_look.nd) dgs_nil)))))
      (dss_one (ds_ret (de_and (df_call D_is_whole G_is_whole hr (das_cons (dv_e (de_var 2)) (das_cons (dv_e de_int) (das_cons (dv_e (de_op do_sub (de_ix (de_var 0) de_int) de_int)) das_nil)))) (de_one (df_call D_is_span G_is_span hr (das_cons (dv_e (de_var 3)) (das_cons (dv_e (de_var 4)) (das_cons (dv_e de_int) das_nil)))))))))), holds_is_look⟩
abbrev s_is_reader : Stmt := topS 20
theorem sc_is_reader : FnScope ["plan", "value", "start", "looks", "look"] ["plan", "value"] (defScope s_is_reader) := ⟨rfl, rfl, rfl, by decide +kernel, rfl, by decide +kernel, by decide +kernel⟩
theorem ok_is_reader {f : Addr} {fd : FuncData} (Fu : Fun K "is_reader" "is_reader" s_is_reader f fd) (B : Blt mg) {f_is_row : Addr} {d_is_row : FuncData} (D_is_row : Df K mg "is_row" s_is_row ["value", "least", "most"] f_is_row d_is_row) (G_is_row : FnOk P w K mg base CX0 1 f_is_row d_is_row ["value", "least", "most"] (liftF K F_is_row)) {f_is_whole : Addr} {d_is_whole : FuncData} (D_is_whole : Df K mg "is_whole" s_is_whole ["value", "low", "high"] f_is_whole d_is_whole) (G_is_whole : FnOk P w K mg base CX0 1 f_is_whole d_is_whole ["value", "low", "high"] (liftF K F_is_whole)) {f_is_look : Addr} {d_is_look : FuncData} (D_is_look : Df K mg "is_look" s_is_look ["plan", "value"] f_is_look d_is_look) (G_is_look : FnOk P w K mg base CX0 3 f_is_look d_is_look ["plan", "value"] (liftF K F_is_look)) : FnOk P w K mg base CX0 4 f fd ["plan", "value"] (liftF K F_is_reader) :=
  fd_ok F_is_reader Fu sc_is_reader len_is_reader fun cdv A outer s H E hr => ⟨rd_is_reader, (dss_cons (ds_if (dt_not (dt_truth (df_call D_is_row G_is_row hr (das_cons (dv_e (de_var 1)) (das_cons (dv_e de_int) (das_cons (dv_e de_int) das_nil)))))) (dss_one (ds_ret de_bl)) dss_nil)
      (dss_cons (ds_asg (de_var 1) (dg_tup rfl (dgs_cons (dg_name 2 sc_is_reader.nd) (dgs_cons (dg_name 3 sc_is_reader.nd) dgs_nil))))
      (dss_cons (ds_if (dw_pt (dw_and (dt_cmp do_isnot (de_var 2) de_non) (dw_and1 (dt_not (dt_truth (df_call D_is_whole G_is_whole hr (das_cons (dv_e (de_var 2)) (das_cons (dv_e de_int) (das_cons (dv_e (de_op do_sub (de_callB dc_len (by rfl) B.len (by decide +kernel) (da_cons (de_ix (de_var 0) de_int) da_nil)) de_int)) das_nil))))))))) (dss_one (ds_ret de_bl)) dss_nil)
      (dss_one (ds_ret (de_and (df_call D_is_row G_is_row hr (das_cons (dv_e (de_var 3)) (das_cons (dv_e de_int) (das_cons (dv_e de_int) das_nil)))) (de_one (de_callB (dc_all rfl) (by rfl) B.all (by decide +kernel) (da_cons (de_lc [("look", 4)] rfl sc_is_reader.nd (di_any (de_var 3)) (fun _ _ _ _ _ => (dg_name 4 sc_is_reader.nd)) (fun _ _ _ _ _ => dts_nil) (fun _ _ _ _ _ => (df_call D_is_look G_is_look hr (das_cons (dv_e (de_var 0)) (das_cons (dv_e (de_var 4)) das_nil)))) (by exact (show blkC ["plan", "value", "start", "looks", "look"] (defScope s_is_reader) _ [("look", 4)] = true by decide +kernel))) da_nil))))))))), holds_is_reader⟩
abbrev s_check_reader : Stmt := topS 24
theorem sc_check_reader : FnScope ["plan", "reader"] ["plan", "reader"] (defScope s_check_reader) := ⟨rfl, rfl, rfl, by decide +kernel, rfl, by decide +kernel, by decide +kernel⟩
theorem ok_check_reader {f : Addr} {fd : FuncData} (Fu : Fun K "check_reader" "check_reader" s_check_reader f fd) (B : Blt mg) {f_check_plan : Addr} {d_check_plan : FuncData} (D_check_plan : Df K mg "check_plan" s_check_plan ["plan"] f_check_plan d_check_plan) (G_check_plan : FnOk P w K mg base CX0 5 f_check_plan d_check_plan ["plan"] (liftF K F_check_plan)) {f_is_reader : Addr} {d_is_reader : FuncData} (D_is_reader : Df K mg "is_reader" s_is_reader ["plan", "value"] f_is_reader d_is_reader) (G_is_reader : FnOk P w K mg base CX0 4 f_is_reader d_is_reader ["plan", "value"] (liftF K F_is_reader)) : FnOk P w K mg base CX0 6 f fd ["plan", "reader"] (liftF K F_check_reader) :=
  fd_ok F_check_reader Fu sc_check_reader len_check_reader fun cdv A outer s H E hr => ⟨rd_check_reader, (dss_cons (ds_expr (df_call D_check_plan G_check_plan hr (das_cons (dv_e (de_var 0)) das_nil)))
      (dss_one (ds_if (dt_not (dt_truth (df_call D_is_reader G_is_reader hr (das_cons (dv_e (de_var 0)) (das_cons (dv_e (de_var 1)) das_nil))))) (dss_one ds_never) dss_nil))), holds_check_reader⟩
abbrev s_is_case : Stmt := topS 23
theorem sc_is_case : FnScope ["plan", "look", "value", "writes", "done", "shown"] ["plan", "look", "value"] (defScope s_is_case) := ⟨rfl, rfl, rfl, by decide +kernel, rfl, by decide +kernel, by decide +kernel⟩
theorem ok_is_case {f : Addr} {fd : FuncData} (Fu : Fun K "is_case" "is_case" s_is_case f fd) (B : Blt mg) {f_is_whole : Addr} {d_is_whole : FuncData} (D_is_whole : Df K mg "is_whole" s_is_whole ["value", "low", "high"] f_is_whole d_is_whole) (G_is_whole : FnOk P w K mg base CX0 1 f_is_whole d_is_whole ["value", "low", "high"] (liftF K F_is_whole)) {f_is_row : Addr} {d_is_row : FuncData} (D_is_row : Df K mg "is_row" s_is_row ["value", "least", "most"] f_is_row d_is_row) (G_is_row : FnOk P w K mg base CX0 1 f_is_row d_is_row ["value", "least", "most"] (liftF K F_is_row)) : FnOk P w K mg base CX0 2 f fd ["plan", "look", "value"] (liftF K F_is_case) :=
  fd_ok F_is_case Fu sc_is_case len_is_case fun cdv A outer s H E hr => ⟨rd_is_case, (dss_cons (ds_set 3 sc_is_case.nd (de_ix (de_var 0) de_int))
      (dss_cons (ds_if (dw_pt (dw_or (dt_not (dt_truth (df_call D_is_row G_is_row hr (das_cons (dv_e (de_var 2)) (das_cons (dv_e de_int) (das_cons (dv_e de_int) das_nil)))))) (dw_or1 (dt_not (dt_truth (df_call D_is_whole G_is_whole hr (das_cons (dv_e (de_ix (de_var 2) de_int)) (das_cons (dv_e de_int) (das_cons (dv_e (de_callB dc_len (by rfl) B.len (by decide +kernel) (da_cons (de_var 3) da_nil))) das_nil))))))))) (dss_one (ds_ret de_bl)) dss_nil)
      (dss_cons (ds_asg (de_var 2) (dg_tup rfl (dgs_cons (dg_name 4 sc_is_case.nd) (dgs_cons (dg_name 5 sc_is_case.nd) dgs_nil))))
      (dss_cons (ds_if (dt_cmp do_is (de_var 5) de_non) (dss_one (ds_ret de_bl)) dss_nil)
      (dss_one (ds_ret (de_and (df_call D_is_whole G_is_whole hr (das_cons (dv_e (de_var 5)) (das_cons (dv_e de_int) (das_cons (dv_e (de_op do_sub (de_var 4) de_int)) das_nil)))) (de_one (de_cmp (do_eq hr.units) (de_ix (de_ix (de_var 3) (de_var 5)) de_int) (de_ix (de_var 1) de_int)))))))))), holds_is_case⟩
abbrev s_is_choice : Stmt := topS 22
theorem sc_is_choice : FnScope ["plan", "reader", "value", "looks", "look", "case"] ["plan", "reader", "value"] (defScope s_is_choice) := ⟨rfl, rfl, rfl, by decide +kernel, rfl, by decide +kernel, by decide +kernel⟩
theorem ok_is_choice {f : Addr} {fd : FuncData} (Fu : Fun K "is_choice" "is_choice" s_is_choice f fd) (B : Blt mg) {f_is_row : Addr} {d_is_row : FuncData} (D_is_row : Df K mg "is_row" s_is_row ["value", "least", "most"] f_is_row d_is_row) (G_is_row : FnOk P w K mg base CX0 1 f_is_row d_is_row ["value", "least", "most"] (liftF K F_is_row)) {f_is_case : Addr} {d_is_case : FuncData} (D_is_case : Df K mg "is_case" s_is_case ["plan", "look", "value"] f_is_case d_is_case) (G_is_case : FnOk P w K mg base CX0 2 f_is_case d_is_case ["plan", "look", "value"] (liftF K F_is_case)) : FnOk P w K mg base CX0 3 f fd ["plan", "reader", "value"] (liftF K F_is_choice) :=
  fd_ok F_is_choice Fu sc_is_choice len_is_choice fun cdv A outer s H E hr => ⟨rd_is_choice, (dss_cons (ds_set 3 sc_is_choice.nd (de_ix (de_var 1) de_int))
      (dss_cons (ds_if (dt_not (dt_truth (df_call D_is_row G_is_row hr (das_cons (dv_e (de_var 2)) (das_cons (dv_e (de_callB dc_len (by rfl) B.len (by decide +kernel) (da_cons (de_var 3) da_nil))) (das_cons (dv_e (de_callB dc_len (by rfl) B.len (by decide +kernel) (da_cons (de_var 3) da_nil))) das_nil)))))) (dss_one (ds_ret de_bl)) dss_nil)
      (dss_one (ds_ret (de_callB (dc_all rfl) (by rfl) B.all (by decide +kernel) (da_cons (de_lc [("look", 4), ("case", 5)] rfl sc_is_choice.nd (di_zip B.zip (da_cons (de_var 3) (da_cons (de_var 2) da_nil))) (fun _ _ _ _ _ => (dg_tup rfl (dgs_cons (dg_name 4 sc_is_choice.nd) (dgs_cons (dg_name 5 sc_is_choice.nd) dgs_nil)))) (fun _ _ _ _ _ => dts_nil) (fun _ _ _ _ _ => (df_call D_is_case G_is_case hr (das_cons (dv_e (de_var 0)) (das_cons (dv_e (de_var 4)) (das_cons (dv_e (de_var 5)) das_nil))))) (by exact (show blkC ["plan", "reader", "value", "looks", "look", "case"] (defScope s_is_choice) _ [("look", 4), ("case", 5)] = true by decide +kernel))) da_nil)))))), holds_is_choice⟩
abbrev s_check_choice : Stmt := topS 25
theorem sc_check_choice : FnScope ["plan", "reader", "choice"] ["plan", "reader", "choice"] (defScope s_check_choice) := ⟨rfl, rfl, rfl, by decide +kernel, rfl, by decide +kernel, by decide +kernel⟩
theorem ok_check_choice {f : Addr} {fd : FuncData} (Fu : Fun K "check_choice" "check_choice" s_check_choice f fd) (B : Blt mg) {f_check_reader : Addr} {d_check_reader : FuncData} (D_check_reader : Df K mg "check_reader" s_check_reader ["plan", "reader"] f_check_reader d_check_reader) (G_check_reader : FnOk P w K mg base CX0 6 f_check_reader d_check_reader ["plan", "reader"] (liftF K F_check_reader)) {f_is_choice : Addr} {d_is_choice : FuncData} (D_is_choice : Df K mg "is_choice" s_is_choice ["plan", "reader", "value"] f_is_choice d_is_choice) (G_is_choice : FnOk P w K mg base CX0 3 f_is_choice d_is_choice ["plan", "reader", "value"] (liftF K F_is_choice)) : FnOk P w K mg base CX0 7 f fd ["plan", "reader", "choice"] (liftF K F_check_choice) :=
  fd_ok F_check_choice Fu sc_check_choice len_check_choice fun cdv A outer s H E hr => ⟨rd_check_choice, (dss_cons (ds_expr (df_call D_check_reader G_check_reader hr (das_cons (dv_e (de_var 0)) (das_cons (dv_e (de_var 1)) das_nil))))
      (dss_one (ds_if (dt_not (dt_truth (df_call D_is_choice G_is_choice hr (das_cons (dv_e (de_var 0)) (das_cons (dv_e (de_var 1)) (das_cons (dv_e (de_var 2)) das_nil)))))) (dss_one ds_never) dss_nil))), holds_check_choice⟩
abbrev s_rest_bounds : Stmt := topS 14
theorem sc_rest_bounds : FnScope ["plan", "write"] ["plan"] (defScope s_rest_bounds) := ⟨rfl, rfl, rfl, by decide +kernel, rfl, by decide +kernel, by decide +kernel⟩
theorem ok_rest_bounds {f : Addr} {fd : FuncData} (Fu : Fun K "rest_bounds" "rest_bounds" s_rest_bounds f fd) (B : Blt mg) : FnOk P w K mg base CX0 1 f fd ["plan"] (liftF K F_rest_bounds) :=
  fd_ok F_rest_bounds Fu sc_rest_bounds len_rest_bounds fun cdv A outer s H E hr => ⟨rd_rest_bounds, (dss_one (ds_ret (de_lc [("write", 1)] rfl sc_rest_bounds.nd (di_any (de_ix (de_var 0) de_int)) (fun _ _ _ _ _ => (dg_name 1 sc_rest_bounds.nd)) (fun _ _ _ _ _ => dts_nil) (fun _ _ _ _ _ => (de_tup (da_cons (de_ix (de_var 1) de_int) (da_cons (de_ix (de_var 1) de_int) da_nil)))) (by exact (show blkC ["plan", "write"] (defScope s_rest_bounds) _ [("write", 1)] = true by decide +kernel))))), holds_rest_bounds⟩
abbrev s_write_differences : Stmt := topS 30
theorem sc_write_differences : FnScope ["plan", "told", "number", "low", "high"] ["plan"] (defScope s_write_differences) := ⟨rfl, rfl, rfl, by decide +kernel, rfl, by decide +kernel, by decide +kernel⟩
theorem ok_write_differences {f : Addr} {fd : FuncData} (Fu : Fun K "write_differences" "write_differences" s_write_differences f fd) (B : Blt mg) {f_rest_bounds : Addr} {d_rest_bounds : FuncData} (D_rest_bounds : Df K mg "rest_bounds" s_rest_bounds ["plan"] f_rest_bounds d_rest_bounds) (G_rest_bounds : FnOk P w K mg base CX0 1 f_rest_bounds d_rest_bounds ["plan"] (liftF K F_rest_bounds)) : FnOk P w K mg base CX0 2 f fd ["plan"] (liftFO K F_write_differences) :=
  fd_okO F_write_differences Fu sc_write_differences len_write_differences fun cdv A outer s H E hr => ⟨rd_write_differences, (dso_cons (ds_ownL 1 sc_write_differences.nd da_nil)
      (dso_cons (ds_for PassesOwn.never rfl (di_enum B.enumerate (da_cons (df_call D_rest_bounds G_rest_bounds hr (das_cons (dv_e (de_var 0)) das_nil)) da_nil)) (dg_tup rfl (dgs_cons (dg_name 2 sc_write_differences.nd) (dgs_cons (dg_tup rfl (dgs_cons (dg_name 3 sc_write_differences.nd) (dgs_cons (dg_name 4 sc_write_differences.nd) dgs_nil))) dgs_nil))) (dss_cons (ds_app 1 (de_tup (da_cons (de_var 2) (da_cons (de_op do_add (de_var 2) de_int) (da_cons (de_neg (de_var 3)) da_nil)))))
      (dss_one (ds_app 1 (de_tup (da_cons (de_op do_add (de_var 2) de_int) (da_cons (de_var 2) (da_cons (de_var 4) da_nil))))))))
      (dso_ret 1))), holds_write_differences⟩
abbrev s_start_event : Stmt := topS 26
theorem sc_start_event : FnScope ["reader"] ["reader"] (defScope s_start_event) := ⟨rfl, rfl, rfl, by decide +kernel, rfl, by decide +kernel, by decide +kernel⟩
theorem ok_start_event {f : Addr} {fd : FuncData} (Fu : Fun K "start_event" "start_event" s_start_event f fd) (B : Blt mg) : FnOk P w K mg base CX0 1 f fd ["reader"] (liftF K F_start_event) :=
  fd_ok F_start_event Fu sc_start_event len_start_event fun cdv A outer s H E hr => ⟨rd_start_event, (dss_one (ds_ret (de_if (dt_cmp do_is (de_ix (de_var 0) de_int) de_non) de_int (de_op do_add (de_ix (de_var 0) de_int) de_int)))), holds_start_event⟩
abbrev s_case_differences : Stmt := topS 28
theorem sc_case_differences : FnScope ["plan", "event", "cell", "case", "_", "stays", "writes", "done", "shown", "told", "later", "number"] ["plan", "event", "cell", "case"] (defScope s_case_differences) := ⟨rfl, rfl, rfl, by decide +kernel, rfl, by decide +kernel, by decide +kernel⟩
theorem ok_case_differences {f : Addr} {fd : FuncData} (Fu : Fun K "case_differences" "case_differences" s_case_differences f fd) (B : Blt mg) : FnOk P w K mg base CX0 1 f fd ["plan", "event", "cell", "case"] (liftF K F_case_differences) :=
  fd_ok F_case_differences Fu sc_case_differences len_case_differences fun cdv A outer s H E hr => ⟨rd_case_differences, (dss_cons (ds_asg (de_var 0) (dg_tup rfl (dgs_cons (dg_name 4 sc_case_differences.nd) (dgs_cons (dg_name 5 sc_case_differences.nd) (dgs_cons (dg_name 6 sc_case_differences.nd) dgs_nil)))))
      (dss_cons (ds_asg (de_var 3) (dg_tup rfl (dgs_cons (dg_name 7 sc_case_differences.nd) (dgs_cons (dg_name 8 sc_case_differences.nd) dgs_nil))))
      (dss_cons (ds_ownL 9 sc_case_differences.nd da_nil)
      (dss_cons (ds_if (dt_cmp do_gt (de_var 7) de_int) (dss_one (ds_app 9 (de_tup (da_cons (de_var 7) (da_cons (de_var 1) (da_cons de_int da_nil)))))) dss_nil)
      (dss_cons (ds_if (dt_cmp do_lt (de_var 7) (de_callB dc_len (by rfl) B.len (by decide +kernel) (da_cons (de_var 6) da_nil))) (dss_one (ds_app 9 (de_tup (da_cons (de_var 1) (da_cons (de_op do_add (de_var 7) de_int) (da_cons (de_neg de_int) da_nil)))))) dss_nil)
      (dss_cons (ds_set 10 sc_case_differences.nd de_int)
      (dss_cons (ds_if (dt_cmp do_isnot (de_var 8) de_non) (dss_cons (ds_app 9 (de_tup (da_cons (de_var 1) (da_cons (de_op do_add (de_var 8) de_int) (da_cons (de_op do_sub (de_ix (de_var 5) (de_ix (de_ix (de_var 6) (de_var 8)) de_int)) de_int) da_nil)))))
      (dss_one (ds_set 10 sc_case_differences.nd (de_op do_add (de_var 8) de_int)))) dss_nil)
      (dss_cons (ds_for PassesOwn.never rfl (di_range2 B.range (da_cons (de_var 10) (da_cons (de_var 7) da_nil))) (dg_name 11 sc_case_differences.nd) (dss_one (ds_if (dt_cmp (do_eq hr.units) (de_ix (de_ix (de_var 6) (de_var 11)) de_int) (de_var 2)) (dss_one (ds_app 9 (de_tup (da_cons (de_op do_add (de_var 11) de_int) (da_cons (de_var 1) (da_cons (de_neg (de_ix (de_var 5) (de_ix (de_ix (de_var 6) (de_var 11)) de_int))) da_nil)))))) dss_nil)))
      (dss_one (ds_ret (de_var 9))))))))))), holds_case_differences⟩
abbrev s_look_differences : Stmt := topS 29
theorem sc_look_differences : FnScope ["plan", "reader", "at", "case", "cell", "low", "high", "event", "ahead"] ["plan", "reader", "at", "case"] (defScope s_look_differences) := ⟨rfl, rfl, rfl, by decide +kernel, rfl, by decide +kernel, by decide +kernel⟩
theorem ok_look_differences {f : Addr} {fd : FuncData} (Fu : Fun K "look_differences" "look_differences" s_look_differences f fd) (B : Blt mg) {f_start_event : Addr} {d_start_event : FuncData} (D_start_event : Df K mg "start_event" s_start_event ["reader"] f_start_event d_start_event) (G_start_event : FnOk P w K mg base CX0 1 f_start_event d_start_event ["reader"] (liftF K F_start_event)) {f_case_differences : Addr} {d_case_differences : FuncData} (D_case_differences : Df K mg "case_differences" s_case_differences ["plan", "event", "cell", "case"] f_case_differences d_case_differences) (G_case_differences : FnOk P w K mg base CX0 1 f_case_differences d_case_differences ["plan", "event", "cell", "case"] (liftF K F_case_differences)) : FnOk P w K mg base CX0 2 f fd ["plan", "reader", "at", "case"] (liftF K F_look_differences) :=
  fd_ok F_look_differences Fu sc_look_differences len_look_differences fun cdv A outer s H E hr => ⟨rd_look_differences, (dss_cons (ds_asg (de_ix (de_ix (de_var 1) de_int) (de_var 2)) (dg_tup rfl (dgs_cons (dg_name 4 sc_look_differences.nd) (dgs_cons (dg_name 5 sc_look_differences.nd) (dgs_cons (dg_name 6 sc_look_differences.nd) dgs_nil)))))
      (dss_cons (ds_set 7 sc_look_differences.nd (de_op do_add (de_op do_add (de_callB dc_len (by rfl) B.len (by decide +kernel) (da_cons (de_ix (de_var 0) de_int) da_nil)) de_int) (de_var 2)))
      (dss_cons (ds_set 8 sc_look_differences.nd (de_if (dt_cmp (do_eq hr.units) (de_var 2) de_int) (df_call D_start_event G_start_event hr (das_cons (dv_e (de_var 1)) das_nil)) (de_op do_sub (de_var 7) de_int)))
      (dss_one (ds_ret (de_op do_add (de_lst (da_cons (de_tup (da_cons (de_var 8) (da_cons (de_var 7) (da_cons (de_neg (de_var 5)) da_nil)))) (da_cons (de_tup (da_cons (de_var 7) (da_cons (de_var 8) (da_cons (de_var 6) da_nil)))) da_nil))) (df_call D_case_differences G_case_differences hr (das_cons (dv_e (de_var 0)) (das_cons (dv_e (de_var 7)) (das_cons (dv_e (de_var 4)) (das_cons (dv_e (de_var 3)) das_nil))))))))))), holds_look_differences⟩
abbrev s_least_told : Stmt := topS 31
theorem sc_least_told : FnScope ["told", "leasts", "x", "y", "c"] ["told"] (defScope s_least_told) := ⟨rfl, rfl, rfl, by decide +kernel, rfl, by decide +kernel, by decide +kernel⟩
theorem ok_least_told {f : Addr} {fd : FuncData} (Fu : Fun K "least_told" "least_told" s_least_told f fd) (B : Blt mg) : FnOk P w K mg base CX0 1 f fd ["told"] (liftF K F_least_told) :=
  fd_ok F_least_told Fu sc_least_told len_least_told fun cdv A outer s H E hr => ⟨rd_least_told, (dss_cons (ds_ownT 1 sc_least_told.nd)
      (dss_cons (ds_for PassesOwn.never rfl (di_any (de_var 0)) (dg_tup rfl (dgs_cons (dg_name 2 sc_least_told.nd) (dgs_cons (dg_name 3 sc_least_told.nd) (dgs_cons (dg_name 4 sc_least_told.nd) dgs_nil)))) (dss_one (ds_putT 1 (hu_of hr) (de_tup (da_cons (de_var 2) (da_cons (de_var 3) da_nil))) (de_callB (dc_min rfl) (by rfl) B.min (by decide +kernel) (da_cons (de_var 4) (da_cons (de_get2 1 (hu_of hr) (de_tup (da_cons (de_var 2) (da_cons (de_var 3) da_nil))) (de_var 4)) da_nil))))))
      (dss_one (ds_ret (de_var 1))))), holds_least_told⟩
abbrev s_differences : Stmt := topS 33
theorem sc_differences : FnScope ["plan", "reader", "choice", "told", "at", "case", "x", "y", "c"] ["plan", "reader", "choice"] (defScope s_differences) := ⟨rfl, rfl, rfl, by decide +kernel, rfl, by decide +kernel, by decide +kernel⟩
theorem ok_differences {f : Addr} {fd : FuncData} (Fu : Fun K "differences" "differences" s_differences f fd) (B : Blt mg) {f_check_choice : Addr} {d_check_choice : FuncData} (D_check_choice : Df K mg "check_choice" s_check_choice ["plan", "reader", "choice"] f_check_choice d_check_choice) (G_check_choice : FnOk P w K mg base CX0 7 f_check_choice d_check_choice ["plan", "reader", "choice"] (liftF K F_check_choice)) {f_write_differences : Addr} {d_write_differences : FuncData} (D_write_differences : Df K mg "write_differences" s_write_differences ["plan"] f_write_differences d_write_differences) (G_write_differences : FnOk P w K mg base CX0 2 f_write_differences d_write_differences ["plan"] (liftFO K F_write_differences)) {f_look_differences : Addr} {d_look_differences : FuncData} (D_look_differences : Df K mg "look_differences" s_look_differences ["plan", "reader", "at", "case"] f_look_differences d_look_differences) (G_look_differences : FnOk P w K mg base CX0 2 f_look_differences d_look_differences ["plan", "reader", "at", "case"] (liftF K F_look_differences)) {f_least_told : Addr} {d_least_told : FuncData} (D_least_told : Df K mg "least_told" s_least_told ["told"] f_least_told d_least_told) (G_least_told : FnOk P w K mg base CX0 1 f_least_told d_least_told ["told"] (liftF K F_least_told)) : FnOk P w K mg base CX0 8 f fd ["plan", "reader", "choice"] (liftF K F_differences) :=
  fd_ok F_differences Fu sc_differences len_differences fun cdv A outer s H E hr => ⟨rd_differences, (dss_cons (ds_expr (df_call D_check_choice G_check_choice hr (das_cons (dv_e (de_var 0)) (das_cons (dv_e (de_var 1)) (das_cons (dv_e (de_var 2)) das_nil)))))
      (dss_cons (ds_ownF 3 D_write_differences G_write_differences hr sc_differences.nd (das_cons (dv_e (de_var 0)) das_nil))
      (dss_cons (ds_for PassesOwn.never rfl (di_enum B.enumerate (da_cons (de_var 2) da_nil)) (dg_tup rfl (dgs_cons (dg_name 4 sc_differences.nd) (dgs_cons (dg_name 5 sc_differences.nd) dgs_nil))) (dss_one (ds_ext 3 (df_call D_look_differences G_look_differences hr (das_cons (dv_e (de_var 0)) (das_cons (dv_e (de_var 1)) (das_cons (dv_e (de_var 4)) (das_cons (dv_e (de_var 5)) das_nil))))))))
      (dss_one (ds_ret (de_callT dc_tuple (by rfl) B.tuple (by decide +kernel) (da_cons (de_callB (dc_sortR (d := 3) (M := 100) (B := 1000)) (by rfl) B.sorted (by decide +kernel) (da_cons (de_lcT [("x", 6), ("y", 7), ("c", 8)] 6 7 8 rfl sc_differences.nd (df_call D_least_told G_least_told hr (das_cons (dv_e (de_var 3)) das_nil)) (fun _ _ _ _ _ => pg_tup rfl (pgs_cons (pg_tup rfl (pgs_cons (pg_name (i := 6) sc_differences.nd rfl (Or.inl rfl)) (pgs_cons (pg_name (i := 7) sc_differences.nd rfl (Or.inl rfl)) pgs_nil))) (pgs_cons (pg_name (i := 8) sc_differences.nd rfl (Or.inl rfl)) pgs_nil))) (fun _ _ _ _ _ => (de_tup (da_cons (de_var 6) (da_cons (de_var 7) (da_cons (de_var 8) da_nil))))) (by exact (show blkC ["plan", "reader", "choice", "told", "at", "case", "x", "y", "c"] (defScope s_differences) _ [("x", 6), ("y", 7), ("c", 8)] = true by decide +kernel))) da_nil)) da_nil))))))), holds_differences⟩
abbrev s__law_all : Stmt := topS 41
theorem sc__law_all : FnScope ["bounds", "found", "low", "high", "longer", "one", "number"] ["bounds"] (defScope s__law_all) := ⟨rfl, rfl, rfl, by decide +kernel, rfl, by decide +kernel, by decide +kernel⟩
theorem ok__law_all {f : Addr} {fd : FuncData} (Fu : Fun K "_law_all" "_law_all" s__law_all f fd) (B : Blt mg) : FnOk P w K mg base CX0 1 f fd ["bounds"] (liftF K F__law_all) :=
  fd_ok F__law_all Fu sc__law_all len__law_all fun cdv A outer s H E hr => ⟨rd__law_all, (dss_cons (ds_set 1 sc__law_all.nd (de_lst (da_cons (de_tup da_nil) da_nil)))
      (dss_cons (ds_for PassesOwn.never rfl (di_any (de_var 0)) (dg_tup rfl (dgs_cons (dg_name 2 sc__law_all.nd) (dgs_cons (dg_name 3 sc__law_all.nd) dgs_nil))) (dss_cons (ds_set 4 sc__law_all.nd (de_lst da_nil))
      (dss_cons (ds_for PassesOwn.never rfl (di_any (de_var 1)) (dg_name 5 sc__law_all.nd) (dss_one (ds_set 4 sc__law_all.nd (de_op do_add (de_var 4) (de_lc [("number", 6)] rfl sc__law_all.nd (di_range2 B.range (da_cons (de_var 2) (da_cons (de_op do_add (de_var 3) de_int) da_nil))) (fun _ _ _ _ _ => (dg_name 6 sc__law_all.nd)) (fun _ _ _ _ _ => dts_nil) (fun _ _ _ _ _ => (de_op do_add (de_var 5) (de_tup (da_cons (de_var 6) da_nil)))) (by exact (show blkC ["bounds", "found", "low", "high", "longer", "one", "number"] (defScope s__law_all) _ [("number", 6)] = true by decide +kernel)))))))
      (dss_one (ds_set 1 sc__law_all.nd (de_var 4))))))
      (dss_one (ds_ret (de_var 1))))), holds__law_all⟩
abbrev s__law_paces : Stmt := topS 43
theorem sc__law_paces : FnScope ["plan", "write"] ["plan"] (defScope s__law_paces) := ⟨rfl, rfl, rfl, by decide +kernel, rfl, by decide +kernel, by decide +kernel⟩
theorem ok__law_paces {f : Addr} {fd : FuncData} (Fu : Fun K "_law_paces" "_law_paces" s__law_paces f fd) (B : Blt mg) {f__law_all : Addr} {d__law_all : FuncData} (D__law_all : Df K mg "_law_all" s__law_all ["bounds"] f__law_all d__law_all) (G__law_all : FnOk P w K mg base CX0 1 f__law_all d__law_all ["bounds"] (liftF K F__law_all)) : FnOk P w K mg base CX0 2 f fd ["plan"] (liftF K F__law_paces) :=
  fd_ok F__law_paces Fu sc__law_paces len__law_paces fun cdv A outer s H E hr => ⟨rd__law_paces, (dss_one (ds_ret (df_call D__law_all G__law_all hr (das_cons (dv_e (de_lc [("write", 1)] rfl sc__law_paces.nd (di_any (de_ix (de_var 0) de_int)) (fun _ _ _ _ _ => (dg_name 1 sc__law_paces.nd)) (fun _ _ _ _ _ => dts_nil) (fun _ _ _ _ _ => (de_tup (da_cons (de_ix (de_var 1) de_int) (da_cons (de_ix (de_var 1) de_int) da_nil)))) (by exact (show blkC ["plan", "write"] (defScope s__law_paces) _ [("write", 1)] = true by decide +kernel)))) das_nil)))), holds__law_paces⟩
abbrev s_ring_from : Stmt := topS 18
theorem sc_ring_from : FnScope ["follows", "first", "found", "event"] ["follows", "first"] (defScope s_ring_from) := ⟨rfl, rfl, rfl, by decide +kernel, rfl, by decide +kernel, by decide +kernel⟩
theorem ok_ring_from {f : Addr} {fd : FuncData} (Fu : Fun K "ring_from" "ring_from" s_ring_from f fd) (B : Blt mg) : FnOk P w K mg base CX0 1 f fd ["follows", "first"] (liftF K F_ring_from) :=
  fd_ok F_ring_from Fu sc_ring_from len_ring_from fun cdv A outer s H E hr => ⟨rd_ring_from, (dss_cons (ds_ownL 2 sc_ring_from.nd (da_cons (de_var 1) da_nil))
      (dss_cons (ds_set 3 sc_ring_from.nd (de_ix (de_var 0) (de_var 1)))
      (dss_cons (ds_while PassesOwn.never (dt_cmp (do_ne hr.units) (de_var 3) (de_var 1)) (dss_cons (ds_app 2 (de_var 3))
      (dss_one (ds_set 3 sc_ring_from.nd (de_ix (de_var 0) (de_var 3))))))
      (dss_one (ds_ret (de_callT dc_tuple (by rfl) B.tuple (by decide +kernel) (da_cons (de_var 2) da_nil))))))), holds_ring_from⟩
abbrev s_negative_ring : Stmt := topS 17
theorem sc_negative_ring : FnScope ["events", "told", "bests", "follows", "moved", "_", "x", "y", "c"] ["events", "told"] (defScope s_negative_ring) := ⟨rfl, rfl, rfl, by decide +kernel, rfl, by decide +kernel, by decide +kernel⟩
theorem ok_negative_ring {f : Addr} {fd : FuncData} (Fu : Fun K "negative_ring" "negative_ring" s_negative_ring f fd) (B : Blt mg) {f_ring_from : Addr} {d_ring_from : FuncData} (D_ring_from : Df K mg "ring_from" s_ring_from ["follows", "first"] f_ring_from d_ring_from) (G_ring_from : FnOk P w K mg base CX0 1 f_ring_from d_ring_from ["follows", "first"] (liftF K F_ring_from)) : FnOk P w K mg base CX0 2 f fd ["events", "told"] (liftF K F_negative_ring) :=
  fd_ok F_negative_ring Fu sc_negative_ring len_negative_ring fun cdv A outer s H E hr => ⟨rd_negative_ring, (dss_cons (ds_ownR 2 sc_negative_ring.nd (da_cons de_int da_nil) (de_var 0))
      (dss_cons (ds_ownR 3 sc_negative_ring.nd (da_cons de_non da_nil) (de_var 0))
      (dss_cons (ds_set 4 sc_negative_ring.nd de_non)
      (dss_cons (ds_for PassesOwn.never rfl (di_range1 B.range (da_cons (de_var 0) da_nil)) (dg_name 5 sc_negative_ring.nd) (dss_cons (ds_set 4 sc_negative_ring.nd de_non)
      (dss_cons (ds_for PassesOwn.never rfl (di_any (de_var 1)) (dg_tup rfl (dgs_cons (dg_name 6 sc_negative_ring.nd) (dgs_cons (dg_name 7 sc_negative_ring.nd) (dgs_cons (dg_name 8 sc_negative_ring.nd) dgs_nil)))) (dss_one (ds_if (dt_cmp do_lt (de_op do_add (de_ixO 2 (de_var 7)) (de_var 8)) (de_ixO 2 (de_var 6))) (dss_cons (ds_setO 2 (de_var 6) (de_op do_add (de_ixO 2 (de_var 7)) (de_var 8)))
      (dss_cons (ds_setO 3 (de_var 6) (de_var 7))
      (dss_one (ds_set 4 sc_negative_ring.nd (de_var 6))))) dss_nil)))
      (dss_one (ds_if (dt_cmp do_is (de_var 4) de_non) (dss_one (ds_ret de_non)) dss_nil)))))
      (dss_cons (ds_for PassesOwn.never rfl (di_range1 B.range (da_cons (de_var 0) da_nil)) (dg_name 5 sc_negative_ring.nd) (dss_one (ds_set 4 sc_negative_ring.nd (de_ixO 3 (de_var 4)))))
      (dss_one (ds_ret (df_call D_ring_from G_ring_from hr (das_cons (dv_e (de_var 3)) (das_cons (dv_e (de_var 4)) das_nil)))))))))), holds_negative_ring⟩
abbrev s_ring : Stmt := topS 34
theorem sc_ring : FnScope ["plan", "reader", "choice", "told"] ["plan", "reader", "choice"] (defScope s_ring) := ⟨rfl, rfl, rfl, by decide +kernel, rfl, by decide +kernel, by decide +kernel⟩
theorem ok_ring {f : Addr} {fd : FuncData} (Fu : Fun K "ring" "ring" s_ring f fd) (B : Blt mg) {f_differences : Addr} {d_differences : FuncData} (D_differences : Df K mg "differences" s_differences ["plan", "reader", "choice"] f_differences d_differences) (G_differences : FnOk P w K mg base CX0 8 f_differences d_differences ["plan", "reader", "choice"] (liftF K F_differences)) {f_negative_ring : Addr} {d_negative_ring : FuncData} (D_negative_ring : Df K mg "negative_ring" s_negative_ring ["events", "told"] f_negative_ring d_negative_ring) (G_negative_ring : FnOk P w K mg base CX0 2 f_negative_ring d_negative_ring ["events", "told"] (liftF K F_negative_ring)) : FnOk P w K mg base CX0 9 f fd ["plan", "reader", "choice"] (liftF K F_ring) :=
  fd_ok F_ring Fu sc_ring len_ring fun cdv A outer s H E hr => ⟨rd_ring, (dss_cons (ds_set 3 sc_ring.nd (df_call D_differences G_differences hr (das_cons (dv_e (de_var 0)) (das_cons (dv_e (de_var 1)) (das_cons (dv_e (de_var 2)) das_nil)))))
      (dss_one (ds_ret (df_call D_negative_ring G_negative_ring hr (das_cons (dv_e (de_op do_add (de_op do_add de_int (de_callB dc_len (by rfl) B.len (by decide +kernel) (da_cons (de_ix (de_var 0) de_int) da_nil))) (de_callB dc_len (by rfl) B.len (by decide +kernel) (da_cons (de_ix (de_var 1) de_int) da_nil)))) (das_cons (dv_e (de_var 3)) das_nil)))))), holds_ring⟩
abbrev s__law_alike : Stmt := topS 38
theorem sc__law_alike : FnScope ["found", "due", "k", "key"] ["found", "due"] (defScope s__law_alike) := ⟨rfl, rfl, rfl, by decide +kernel, rfl, by decide +kernel, by decide +kernel⟩
theorem ok__law_alike {F0 F1 : PF} {k : Nat} (hk : 0 ≤ k) {f : Addr} {fd : FuncData} (D__law_alike : Df K mg "_law_alike" s__law_alike ["found", "due"] f fd) (B : Blt mg) (G__law_alike : FnOk P w K mg base CX0 k f fd ["found", "due"] (liftF K F0)) (len : ∀ as Q, F1 as Q → as.length = 2) (hold : ∀ as Q, F1 as Q → rd__law_alike F0 { nx := fun _ => Q .none, rt := Q } (startP ["found", "due", "k", "key"] as)) : FnOk P w K mg base CX0 (k + 1) f fd ["found", "due"] (liftF K F1) :=
  fd_ok F1 D__law_alike.fn sc__law_alike len fun cdv A outer s H E hr => ⟨rd__law_alike F0, (dss_cons (ds_if (dt_truth (de_isi2 kit_tup kit_lst (de_var 1) B.isinstance B.tuple B.list (by decide +kernel) (by decide +kernel))) (dss_cons (ds_if (dw_pt (dw_or (dt_not (dt_truth (de_isi2 kit_tup kit_lst (de_var 0) B.isinstance B.tuple B.list (by decide +kernel) (by decide +kernel)))) (dw_or1 (dt_cmp (do_ne hr.units) (de_isi kit_lst (de_var 0) B.isinstance B.list (by decide +kernel)) (de_isi kit_lst (de_var 1) B.isinstance B.list (by decide +kernel)))))) (dss_one (ds_ret de_bl)) dss_nil)
      (dss_cons (ds_if (dt_cmp (do_ne hr.units) (de_callB dc_len (by rfl) B.len (by decide +kernel) (da_cons (de_var 0) da_nil)) (de_callB dc_len (by rfl) B.len (by decide +kernel) (da_cons (de_var 1) da_nil))) (dss_one (ds_ret de_bl)) dss_nil)
      (dss_one (ds_ret (de_cmp (do_eq hr.units) (de_lc [("k", 2)] rfl sc__law_alike.nd (di_range1 B.range (da_cons (de_callB dc_len (by rfl) B.len (by decide +kernel) (da_cons (de_var 1) da_nil)) da_nil)) (fun _ _ _ _ _ => (dg_name 2 sc__law_alike.nd)) (fun _ _ _ _ _ => (dts_one (dt_not (dt_truth (df_call (hj := Nat.le_refl k) D__law_alike G__law_alike hr (das_cons (dv_e (de_ix (de_var 0) (de_var 2))) (das_cons (dv_e (de_ix (de_var 1) (de_var 2))) das_nil))))))) (fun _ _ _ _ _ => (de_var 2)) (by exact (show blkC ["found", "due", "k", "key"] (defScope s__law_alike) _ [("k", 2)] = true by decide +kernel))) (de_lst da_nil)))))) dss_nil)
      (dss_cons (ds_if (dt_truth (de_isi kit_dic (de_var 1) B.isinstance B.dict (by decide +kernel))) dss_never dss_nil)
      (dss_cons (ds_if (dw_pt (dw_or (dt_cmp do_is (de_var 1) de_non) (dw_or1 (dt_truth (de_isi kit_str (de_var 1) B.isinstance B.str (by decide +kernel)))))) (dss_one (ds_ret (de_and (de_cmp (do_eq hr.units) (de_var 0) (de_var 1)) (de_one (de_cmp (do_eq hr.units) (de_isi kit_str (de_var 0) B.isinstance B.str (by decide +kernel)) (de_isi kit_str (de_var 1) B.isinstance B.str (by decide +kernel))))))) dss_nil)
      (dss_one (ds_ret (de_and (de_isi kit_int (de_var 0) B.isinstance B.int (by decide +kernel)) (de_and (de_cmp (do_eq hr.units) (de_isi kit_bool (de_var 0) B.isinstance B.bool (by decide +kernel)) (de_isi kit_bool (de_var 1) B.isinstance B.bool (by decide +kernel))) (de_one (de_cmp (do_eq hr.units) (de_var 0) (de_var 1)))))))))), hold⟩
abbrev s__law_ticks : Stmt := topS 42
theorem sc__law_ticks : FnScope ["rests", "first", "found", "rest"] ["rests", "first"] (defScope s__law_ticks) := ⟨rfl, rfl, rfl, by decide +kernel, rfl, by decide +kernel, by decide +kernel⟩
theorem ok__law_ticks {f : Addr} {fd : FuncData} (Fu : Fun K "_law_ticks" "_law_ticks" s__law_ticks f fd) (B : Blt mg) : FnOk P w K mg base CX0 1 f fd ["rests", "first"] (liftF K F__law_ticks) :=
  fd_ok F__law_ticks Fu sc__law_ticks len__law_ticks fun cdv A outer s H E hr => ⟨rd__law_ticks, (dss_cons (ds_ownL 2 sc__law_ticks.nd da_nil)
      (dss_cons (ds_for PassesOwn.never rfl (di_any (de_var 0)) (dg_name 3 sc__law_ticks.nd) (dss_cons (ds_set 1 sc__law_ticks.nd (de_op do_add (de_var 1) (de_var 3)))
      (dss_one (ds_app 2 (de_var 1)))))
      (dss_one (ds_ret (de_var 2))))), holds__law_ticks⟩
abbrev s_look_cases : Stmt := topS 27
theorem sc_look_cases : FnScope ["plan", "look", "writes", "found", "done", "shown"] ["plan", "look"] (defScope s_look_cases) := ⟨rfl, rfl, rfl, by decide +kernel, rfl, by decide +kernel, by decide +kernel⟩
theorem ok_look_cases {f : Addr} {fd : FuncData} (Fu : Fun K "look_cases" "look_cases" s_look_cases f fd) (B : Blt mg) : FnOk P w K mg base CX0 1 f fd ["plan", "look"] (liftF K F_look_cases) :=
  fd_ok F_look_cases Fu sc_look_cases len_look_cases fun cdv A outer s H E hr => ⟨rd_look_cases, (dss_cons (ds_set 2 sc_look_cases.nd (de_ix (de_var 0) de_int))
      (dss_cons (ds_ownL 3 sc_look_cases.nd da_nil)
      (dss_cons (ds_for PassesOwn.never rfl (di_range1 B.range (da_cons (de_op do_add (de_callB dc_len (by rfl) B.len (by decide +kernel) (da_cons (de_var 2) da_nil)) de_int) da_nil)) (dg_name 4 sc_look_cases.nd) (dss_cons (ds_app 3 (de_tup (da_cons (de_var 4) (da_cons de_non da_nil))))
      (dss_one (ds_ext 3 (de_lc [("shown", 5)] rfl sc_look_cases.nd (di_range1 B.range (da_cons (de_var 4) da_nil)) (fun _ _ _ _ _ => (dg_name 5 sc_look_cases.nd)) (fun _ _ _ _ _ => (dts_one (dt_cmp (do_eq hr.units) (de_ix (de_ix (de_var 2) (de_var 5)) de_int) (de_ix (de_var 1) de_int)))) (fun _ _ _ _ _ => (de_tup (da_cons (de_var 4) (da_cons (de_var 5) da_nil)))) (by exact (show blkC ["plan", "look", "writes", "found", "done", "shown"] (defScope s_look_cases) _ [("shown", 5)] = true by decide +kernel)))))))
      (dss_one (ds_ret (de_var 3)))))), holds_look_cases⟩
abbrev s_cases : Stmt := topS 32
theorem sc_cases : FnScope ["plan", "reader", "at"] ["plan", "reader", "at"] (defScope s_cases) := ⟨rfl, rfl, rfl, by decide +kernel, rfl, by decide +kernel, by decide +kernel⟩
theorem ok_cases {f : Addr} {fd : FuncData} (Fu : Fun K "cases" "cases" s_cases f fd) (B : Blt mg) {f_check_reader : Addr} {d_check_reader : FuncData} (D_check_reader : Df K mg "check_reader" s_check_reader ["plan", "reader"] f_check_reader d_check_reader) (G_check_reader : FnOk P w K mg base CX0 6 f_check_reader d_check_reader ["plan", "reader"] (liftF K F_check_reader)) {f_is_whole : Addr} {d_is_whole : FuncData} (D_is_whole : Df K mg "is_whole" s_is_whole ["value", "low", "high"] f_is_whole d_is_whole) (G_is_whole : FnOk P w K mg base CX0 1 f_is_whole d_is_whole ["value", "low", "high"] (liftF K F_is_whole)) {f_look_cases : Addr} {d_look_cases : FuncData} (D_look_cases : Df K mg "look_cases" s_look_cases ["plan", "look"] f_look_cases d_look_cases) (G_look_cases : FnOk P w K mg base CX0 1 f_look_cases d_look_cases ["plan", "look"] (liftF K F_look_cases)) : FnOk P w K mg base CX0 7 f fd ["plan", "reader", "at"] (liftF K F_cases) :=
  fd_ok F_cases Fu sc_cases len_cases fun cdv A outer s H E hr => ⟨rd_cases, (dss_cons (ds_expr (df_call D_check_reader G_check_reader hr (das_cons (dv_e (de_var 0)) (das_cons (dv_e (de_var 1)) das_nil))))
      (dss_cons (ds_if (dt_not (dt_truth (df_call D_is_whole G_is_whole hr (das_cons (dv_e (de_var 2)) (das_cons (dv_e de_int) (das_cons (dv_e (de_op do_sub (de_callB dc_len (by rfl) B.len (by decide +kernel) (da_cons (de_ix (de_var 1) de_int) da_nil)) de_int)) das_nil)))))) (dss_one ds_never) dss_nil)
      (dss_one (ds_ret (de_callT dc_tuple (by rfl) B.tuple (by decide +kernel) (da_cons (df_call D_look_cases G_look_cases hr (das_cons (dv_e (de_var 0)) (das_cons (dv_e (de_ix (de_ix (de_var 1) de_int) (de_var 2))) das_nil))) da_nil)))))), holds_cases⟩
abbrev s__law_case : Stmt := topS 44
theorem sc__law_case : FnScope ["plan", "told", "cell", "tick", "done", "there", "at", "one"] ["plan", "told", "cell", "tick"] (defScope s__law_case) := ⟨rfl, rfl, rfl, by decide +kernel, rfl, by decide +kernel, by decide +kernel⟩
theorem ok__law_case {f : Addr} {fd : FuncData} (Fu : Fun K "_law_case" "_law_case" s__law_case f fd) (B : Blt mg) : FnOk P w K mg base CX0 1 f fd ["plan", "told", "cell", "tick"] (liftF K F__law_case) :=
  fd_ok F__law_case Fu sc__law_case len__law_case fun cdv A outer s H E hr => ⟨rd__law_case, (dss_cons (ds_set 4 sc__law_case.nd (de_callB dc_len (by rfl) B.len (by decide +kernel) (da_cons (de_lc [("one", 7)] rfl sc__law_case.nd (di_any (de_var 1)) (fun _ _ _ _ _ => (dg_name 7 sc__law_case.nd)) (fun _ _ _ _ _ => (dts_one (dt_cmp do_le (de_var 7) (de_var 3)))) (fun _ _ _ _ _ => de_int) (by exact (show blkC ["plan", "told", "cell", "tick", "done", "there", "at", "one"] (defScope s__law_case) _ [("one", 7)] = true by decide +kernel))) da_nil)))
      (dss_cons (ds_setLc 5 [("at", 6)] rfl sc__law_case.nd (di_range1 B.range (da_cons (de_var 4) da_nil)) (fun _ _ _ _ _ => (dg_name 6 sc__law_case.nd)) (fun _ _ _ _ _ => (dts_one (dw_pt (dw_and (dt_cmp (do_eq hr.units) (de_ix (de_ix (de_ix (de_var 0) de_int) (de_var 6)) de_int) (de_var 2)) (dw_and1 (dt_cmp do_lt (de_var 3) (de_op do_add (de_ix (de_var 1) (de_var 6)) (de_ix (de_ix (de_var 0) de_int) (de_ix (de_ix (de_ix (de_var 0) de_int) (de_var 6)) de_int))))))))) (fun _ _ _ _ _ => (de_var 6)) (by exact (show blkC ["plan", "told", "cell", "tick", "done", "there", "at", "one"] (defScope s__law_case) _ [("at", 6)] = true by decide +kernel)) (sw_true rfl rfl rfl (by decide +kernel)))
      (dss_one (ds_ret (de_tup (da_cons (de_var 4) (da_cons (de_if (dt_cmp (do_ne hr.units) (de_var 5) (de_lst da_nil)) (de_ix (de_var 5) (de_neg de_int)) de_non) da_nil))))))), holds__law_case⟩
abbrev s_law : Stmt := topS 45
theorem sc_law : FnScope ["script", "row", "plan", "reader", "lots", "n", "at", "look", "choice", "told", "table", "fits", "x", "y", "c", "rests", "pace", "found", "steps", "due", "done", "rest", "writes", "looks", "events", "so", "one", "lot", "step", "tick"] ["script"] (defScope s_law) := ⟨rfl, rfl, rfl, by decide +kernel, rfl, by decide +kernel, by decide +kernel⟩
theorem ok_law {f : Addr} {fd : FuncData} (Fu : Fun K "law" "law" s_law f fd) (B : Blt mg) {f__law_plan : Addr} {d__law_plan : FuncData} (D__law_plan : Df K mg "_law_plan" s__law_plan ["row", "most", "wide"] f__law_plan d__law_plan) (G__law_plan : FnOk P w K mg base CX0 3 f__law_plan d__law_plan ["row", "most", "wide"] (liftF K F__law_plan)) {f__law_reader : Addr} {d__law_reader : FuncData} (D__law_reader : Df K mg "_law_reader" s__law_reader ["row", "plan", "most", "wide"] f__law_reader d__law_reader) (G__law_reader : FnOk P w K mg base CX0 2 f__law_reader d__law_reader ["row", "plan", "most", "wide"] (liftF K F__law_reader)) {f_differences : Addr} {d_differences : FuncData} (D_differences : Df K mg "differences" s_differences ["plan", "reader", "choice"] f_differences d_differences) (G_differences : FnOk P w K mg base CX0 8 f_differences d_differences ["plan", "reader", "choice"] (liftF K F_differences)) {f__law_all : Addr} {d__law_all : FuncData} (D__law_all : Df K mg "_law_all" s__law_all ["bounds"] f__law_all d__law_all) (G__law_all : FnOk P w K mg base CX0 1 f__law_all d__law_all ["bounds"] (liftF K F__law_all)) {f__law_paces : Addr} {d__law_paces : FuncData} (D__law_paces : Df K mg "_law_paces" s__law_paces ["plan"] f__law_paces d__law_paces) (G__law_paces : FnOk P w K mg base CX0 2 f__law_paces d__law_paces ["plan"] (liftF K F__law_paces)) {f_ring : Addr} {d_ring : FuncData} (D_ring : Df K mg "ring" s_ring ["plan", "reader", "choice"] f_ring d_ring) (G_ring : FnOk P w K mg base CX0 9 f_ring d_ring ["plan", "reader", "choice"] (liftF K F_ring)) {f__law_alike : Addr} {d__law_alike : FuncData} (D__law_alike : Df K mg "_law_alike" s__law_alike ["found", "due"] f__law_alike d__law_alike) (G__law_alike : FnOk P w K mg base CX0 4 f__law_alike d__law_alike ["found", "due"] (liftF K F__law_alike)) {f__law_pick : Addr} {d__law_pick : FuncData} (D__law_pick : Df K mg "_law_pick" s__law_pick ["row", "things"] f__law_pick d__law_pick) (G__law_pick : FnOk P w K mg base CX0 2 f__law_pick d__law_pick ["row", "things"] (liftF K F__law_pick)) {f__law_ticks : Addr} {d__law_ticks : FuncData} (D__law_ticks : Df K mg "_law_ticks" s__law_ticks ["rests", "first"] f__law_ticks d__law_ticks) (G__law_ticks : FnOk P w K mg base CX0 1 f__law_ticks d__law_ticks ["rests", "first"] (liftF K F__law_ticks)) {f_cases : Addr} {d_cases : FuncData} (D_cases : Df K mg "cases" s_cases ["plan", "reader", "at"] f_cases d_cases) (G_cases : FnOk P w K mg base CX0 7 f_cases d_cases ["plan", "reader", "at"] (liftF K F_cases)) {f__law_case : Addr} {d__law_case : FuncData} (D__law_case : Df K mg "_law_case" s__law_case ["plan", "told", "cell", "tick"] f__law_case d__law_case) (G__law_case : FnOk P w K mg base CX0 1 f__law_case d__law_case ["plan", "told", "cell", "tick"] (liftF K F__law_case)) : FnOk P w K mg base CX0 10 f fd ["script"] (liftF K F_law) :=
  fd_ok F_law Fu sc_law len_law fun cdv A outer s H E hr => ⟨rd_law, (dss_cons (ds_row 1 0 (by decide) sc_law.nd)
      (dss_cons (ds_set 2 sc_law.nd (df_call D__law_plan G__law_plan hr (das_cons (dv_row 1) (das_cons (dv_e de_int) (das_cons (dv_e de_int) das_nil)))))
      (dss_cons (ds_set 3 sc_law.nd (df_call D__law_reader G__law_reader hr (das_cons (dv_row 1) (das_cons (dv_e (de_var 2)) (das_cons (dv_e de_int) (das_cons (dv_e de_int) das_nil))))))
      (dss_cons (ds_parL 4 5 rfl sc_law.nd (de_callB dc_len (by rfl) B.len (by decide +kernel) (da_cons (de_ix (de_var 2) de_int) da_nil)))
      (dss_cons (ds_for PassesOwn.never rfl (di_enum B.enumerate (da_cons (de_ix (de_var 3) de_int) da_nil)) (dg_tup rfl (dgs_cons (dg_name 6 sc_law.nd) (dgs_cons (dg_name 7 sc_law.nd) dgs_nil))) (dss_cons (ds_set 19 sc_law.nd (de_lst da_nil))
      (dss_cons (ds_for PassesOwn.never rfl (di_range1 B.range (da_cons (de_op do_add (de_var 5) de_int) da_nil)) (dg_name 20 sc_law.nd) (dss_one (ds_set 19 sc_law.nd (de_op do_add (de_op do_add (de_var 19) (de_lst (da_cons (de_tup (da_cons (de_var 20) (da_cons de_non da_nil))) da_nil))) (de_lc [("one", 26)] rfl sc_law.nd (di_range1 B.range (da_cons (de_var 20) da_nil)) (fun _ _ _ _ _ => (dg_name 26 sc_law.nd)) (fun _ _ _ _ _ => (dts_one (dt_cmp (do_eq hr.units) (de_ix (de_ix (de_ix (de_var 2) de_int) (de_var 26)) de_int) (de_ix (de_var 7) de_int)))) (fun _ _ _ _ _ => (de_tup (da_cons (de_var 20) (da_cons (de_var 26) da_nil)))) (by exact (show blkC ["script", "row", "plan", "reader", "lots", "n", "at", "look", "choice", "told", "table", "fits", "x", "y", "c", "rests", "pace", "found", "steps", "due", "done", "rest", "writes", "looks", "events", "so", "one", "lot", "step", "tick"] (defScope s_law) _ [("one", 26)] = true by decide +kernel)))))))
      (dss_cons (ds_if (dt_not (dt_truth (df_call D__law_alike G__law_alike hr (das_cons (dv_e (df_call D_cases G_cases hr (das_cons (dv_e (de_var 2)) (das_cons (dv_e (de_var 3)) (das_cons (dv_e (de_var 6)) das_nil))))) (das_cons (dv_e (de_callT dc_tuple (by rfl) B.tuple (by decide +kernel) (da_cons (de_var 19) da_nil))) das_nil))))) (dss_one (ds_ret de_bl)) dss_nil)
      (dss_one (ds_app 4 (de_var 19)))))))
      (dss_cons (ds_frz (ds_set 8 sc_law.nd (de_callT dc_tuple (by rfl) B.tuple (by decide +kernel) (da_cons (de_lc [("lot", 27)] rfl sc_law.nd (di_any (de_var 4)) (fun _ _ _ _ _ => (dg_name 27 sc_law.nd)) (fun _ _ _ _ _ => dts_nil) (fun _ _ _ _ _ => (df_call D__law_pick G__law_pick hr (das_cons (dv_row 1) (das_cons (dv_e (de_var 27)) das_nil)))) (by exact (show blkC ["script", "row", "plan", "reader", "lots", "n", "at", "look", "choice", "told", "table", "fits", "x", "y", "c", "rests", "pace", "found", "steps", "due", "done", "rest", "writes", "looks", "events", "so", "one", "lot", "step", "tick"] (defScope s_law) _ [("lot", 27)] = true by decide +kernel))) da_nil))))
      (dss_cons (ds_set 9 sc_law.nd (df_call D_differences G_differences hr (das_cons (dv_e (de_var 2)) (das_cons (dv_e (de_var 3)) (das_cons (dv_e (de_var 8)) das_nil)))))
      (dss_cons (ds_if (dw_pt (dw_or (dt_not (dt_truth (de_isi kit_tup (de_var 9) B.isinstance B.tuple (by decide +kernel)))) (dw_or (dt_cmp (do_ne hr.units) (de_callB (dc_sortR (d := 3) (M := 100) (B := 1000)) (by rfl) B.sorted (by decide +kernel) (da_cons (de_var 9) da_nil)) (de_callT dc_list (by rfl) B.list (by decide +kernel) (da_cons (de_var 9) da_nil))) (dw_or1 (dt_cmp (do_ne hr.units) (de_lenSetP rfl hr.units B.len B.set (da_cons (de_lc [("one", 26)] rfl sc_law.nd (di_any (de_var 9)) (fun _ _ _ _ _ => (dg_name 26 sc_law.nd)) (fun _ _ _ _ _ => dts_nil) (fun _ _ _ _ _ => (de_sl (de_var 26) dp_none (dp_some de_int))) (by exact (show blkC ["script", "row", "plan", "reader", "lots", "n", "at", "look", "choice", "told", "table", "fits", "x", "y", "c", "rests", "pace", "found", "steps", "due", "done", "rest", "writes", "looks", "events", "so", "one", "lot", "step", "tick"] (defScope s_law) _ [("one", 26)] = true by decide +kernel))) da_nil)) (de_callB dc_len (by rfl) B.len (by decide +kernel) (da_cons (de_var 9) da_nil))))))) (dss_one (ds_ret de_bl)) dss_nil)
      (dss_cons (ds_parT 10 11 rfl sc_law.nd de_int)
      (dss_cons (ds_for PassesOwn.never rfl (di_any (de_var 9)) (dg_tup rfl (dgs_cons (dg_name 12 sc_law.nd) (dgs_cons (dg_name 13 sc_law.nd) (dgs_cons (dg_name 14 sc_law.nd) dgs_nil)))) (dss_one (ds_putT 10 (hu_of hr) (de_tup (da_cons (de_var 12) (da_cons (de_var 13) da_nil))) (de_var 14))))
      (dss_cons (ds_set 15 sc_law.nd (df_call D__law_all G__law_all hr (das_cons (dv_e (de_lc [("look", 7)] rfl sc_law.nd (di_any (de_ix (de_var 3) de_int)) (fun _ _ _ _ _ => (dg_name 7 sc_law.nd)) (fun _ _ _ _ _ => dts_nil) (fun _ _ _ _ _ => (de_tup (da_cons (de_ix (de_var 7) de_int) (da_cons (de_ix (de_var 7) de_int) da_nil)))) (by exact (show blkC ["script", "row", "plan", "reader", "lots", "n", "at", "look", "choice", "told", "table", "fits", "x", "y", "c", "rests", "pace", "found", "steps", "due", "done", "rest", "writes", "looks", "events", "so", "one", "lot", "step", "tick"] (defScope s_law) _ [("look", 7)] = true by decide +kernel)))) das_nil)))
      (dss_cons (ds_for PassesOwn.never rfl (di_any (df_call D__law_paces G__law_paces hr (das_cons (dv_e (de_var 2)) das_nil))) (dg_name 16 sc_law.nd) (dss_one (ds_for PassesOwn.never rfl (di_any (de_var 15)) (dg_name 21 sc_law.nd) (dss_cons (ds_set 22 sc_law.nd (df_call D__law_ticks G__law_ticks hr (das_cons (dv_e (de_var 16)) (das_cons (dv_e de_int) das_nil))))
      (dss_cons (ds_set 23 sc_law.nd (df_call D__law_ticks G__law_ticks hr (das_cons (dv_e (de_var 21)) (das_cons (dv_e (de_if (dt_cmp do_is (de_ix (de_var 3) de_int) de_non) de_int (de_ix (de_var 22) (de_ix (de_var 3) de_int)))) das_nil))))
      (dss_cons (ds_set 24 sc_law.nd (de_op do_add (de_op do_add (de_lst (da_cons de_int da_nil)) (de_var 22)) (de_var 23)))
      (dss_cons (ds_set 25 sc_law.nd (de_cmp (do_eq hr.units) (de_lc [("look", 7), ("tick", 29)] rfl sc_law.nd (di_zip B.zip (da_cons (de_ix (de_var 3) de_int) (da_cons (de_var 23) da_nil))) (fun _ _ _ _ _ => (dg_tup rfl (dgs_cons (dg_name 7 sc_law.nd) (dgs_cons (dg_name 29 sc_law.nd) dgs_nil)))) (fun _ _ _ _ _ => dts_nil) (fun _ _ _ _ _ => (df_call D__law_case G__law_case hr (das_cons (dv_e (de_var 2)) (das_cons (dv_e (de_var 22)) (das_cons (dv_e (de_ix (de_var 7) de_int)) (das_cons (dv_e (de_var 29)) das_nil)))))) (by exact (show blkC ["script", "row", "plan", "reader", "lots", "n", "at", "look", "choice", "told", "table", "fits", "x", "y", "c", "rests", "pace", "found", "steps", "due", "done", "rest", "writes", "looks", "events", "so", "one", "lot", "step", "tick"] (defScope s_law) _ [("look", 7), ("tick", 29)] = true by decide +kernel))) (de_callT dc_list (by rfl) B.list (by decide +kernel) (da_cons (de_var 8) da_nil))))
      (dss_cons (ds_if (dt_cmp (do_ne hr.units) (de_var 25) (de_cmp (do_eq hr.units) (de_lc [("x", 12), ("y", 13), ("c", 14)] rfl sc_law.nd (di_any (de_var 9)) (fun _ _ _ _ _ => (dg_tup rfl (dgs_cons (dg_name 12 sc_law.nd) (dgs_cons (dg_name 13 sc_law.nd) (dgs_cons (dg_name 14 sc_law.nd) dgs_nil))))) (fun _ _ _ _ _ => (dts_one (dt_cmp do_gt (de_ix (de_var 24) (de_var 12)) (de_op do_add (de_ix (de_var 24) (de_var 13)) (de_var 14))))) (fun _ _ _ _ _ => de_int) (by exact (show blkC ["script", "row", "plan", "reader", "lots", "n", "at", "look", "choice", "told", "table", "fits", "x", "y", "c", "rests", "pace", "found", "steps", "due", "done", "rest", "writes", "looks", "events", "so", "one", "lot", "step", "tick"] (defScope s_law) _ [("x", 12), ("y", 13), ("c", 14)] = true by decide +kernel))) (de_lst da_nil))) (dss_one (ds_ret de_bl)) dss_nil)
      (dss_one (ds_set 11 sc_law.nd (de_op do_add (de_var 11) (de_callT dc_int (by rfl) B.int (by decide +kernel) (da_cons (de_var 25) da_nil)))))))))))))
      (dss_cons (ds_set 17 sc_law.nd (df_call D_ring G_ring hr (das_cons (dv_e (de_var 2)) (das_cons (dv_e (de_var 3)) (das_cons (dv_e (de_var 8)) das_nil)))))
      (dss_cons (ds_if (dt_cmp (do_ne hr.units) (de_cmp do_is (de_var 17) de_non) (de_cmp do_gt (de_var 11) de_int)) (dss_one (ds_ret de_bl)) dss_nil)
      (dss_cons (ds_if (dt_cmp do_is (de_var 17) de_non) (dss_one (ds_ret de_bl)) dss_nil)
      (dss_cons (ds_if (dw_pt (dw_or (dt_not (dt_truth (de_isi kit_tup (de_var 17) B.isinstance B.tuple (by decide +kernel)))) (dw_or (dt_cmp (do_ne hr.units) (de_lenSetI rfl B.len B.set (da_cons (de_var 17) da_nil)) (de_callB dc_len (by rfl) B.len (by decide +kernel) (da_cons (de_var 17) da_nil))) (dw_or1 (dt_cmp (do_eq hr.units) (de_var 17) (de_tup da_nil)))))) (dss_one (ds_ret de_bl)) dss_nil)
      (dss_cons (ds_setLc 18 [("at", 6), ("one", 26)] rfl sc_law.nd (di_enum B.enumerate (da_cons (de_var 17) da_nil)) (fun _ _ _ _ _ => (dg_tup rfl (dgs_cons (dg_name 6 sc_law.nd) (dgs_cons (dg_name 26 sc_law.nd) dgs_nil)))) (fun _ _ _ _ _ => dts_nil) (fun _ _ _ _ _ => (de_tup (da_cons (de_var 26) (da_cons (de_ix (de_var 17) (de_op do_mod (de_op do_add (de_var 6) de_int) (de_callB dc_len (by rfl) B.len (by decide +kernel) (da_cons (de_var 17) da_nil)))) da_nil)))) (by exact (show blkC ["script", "row", "plan", "reader", "lots", "n", "at", "look", "choice", "told", "table", "fits", "x", "y", "c", "rests", "pace", "found", "steps", "due", "done", "rest", "writes", "looks", "events", "so", "one", "lot", "step", "tick"] (defScope s_law) _ [("at", 6), ("one", 26)] = true by decide +kernel)) (sw_true rfl rfl rfl (by decide +kernel)))
      (dss_one (ds_ret (de_and (de_cmp (do_eq hr.units) (de_lc [("step", 28)] rfl sc_law.nd (di_any (de_var 18)) (fun _ _ _ _ _ => (dg_name 28 sc_law.nd)) (fun _ _ _ _ _ => (dts_one (dt_notInT (hu_of hr) (de_var 28) (de_var 10)))) (fun _ _ _ _ _ => (de_var 28)) (by exact (show blkC ["script", "row", "plan", "reader", "lots", "n", "at", "look", "choice", "told", "table", "fits", "x", "y", "c", "rests", "pace", "found", "steps", "due", "done", "rest", "writes", "looks", "events", "so", "one", "lot", "step", "tick"] (defScope s_law) _ [("step", 28)] = true by decide +kernel))) (de_lst da_nil)) (de_one (de_cmp do_lt (de_callB (dc_sum rfl) (by rfl) B.sum (by decide +kernel) (da_cons (de_lc [("step", 28)] rfl sc_law.nd (di_any (de_var 18)) (fun _ _ _ _ _ => (dg_name 28 sc_law.nd)) (fun _ _ _ _ _ => dts_nil) (fun _ _ _ _ _ => (de_getT (hu_of hr) (de_var 10) (de_var 28))) (by exact (show blkC ["script", "row", "plan", "reader", "lots", "n", "at", "look", "choice", "told", "table", "fits", "x", "y", "c", "rests", "pace", "found", "steps", "due", "done", "rest", "writes", "looks", "events", "so", "one", "lot", "step", "tick"] (defScope s_law) _ [("step", 28)] = true by decide +kernel))) da_nil)) de_int)))))))))))))))))))))), holds_law⟩
end
theorem fn_no {P : Program} {w : World} {K : Fg} {mg : Str → Option Value} {base : Heap} {k : Nat} {f : Addr} {fd : FuncData} {ps : List Str} {F : PF} (h : ∀ as Q, ¬ F as Q) : FnOk P w K mg base CX0 k f fd ps (liftF K F) :=
  ⟨fun vs H Q E ⟨_, _, _, _, _, _, p, _⟩ => (h _ _ p).elim, fun A outer s H args us vs Q E hr e hb hv ⟨_, _, _, _, _, _, p, _⟩ => (h _ _ p).elim⟩
theorem n__law_alike {P : Program} {w : World} {K : Fg} {mg : Str → Option Value} {base : Heap} {f : Addr} {fd : FuncData} (D : Df K mg "_law_alike" s__law_alike ["found", "due"] f fd) (B : Blt mg) : ∀ n : Nat, FnOk P w K mg base CX0 (0 + n) f fd ["found", "due"] (liftF K (Falike n))
  | 0 => fn_no (fun _ _ h => h)
  | n + 1 => ok__law_alike (Nat.le_add_right 0 n) D B (n__law_alike D B n) (len_alike (n + 1)) (hold_alike n)
/-! ### the law's own head -/
def spLaw (K : Fg) : Sp := fun vs H Q _ => ∃ (a : Addr) (ns : List Int), vs = [.ref a] ∧ SqL K H a (ns.map V.int) ∧ ns.length ≤ 63 ∧ ∀ H', Q (.bl true) H'
theorem law_imp {P : Program} {w : World} {K : Fg} {mg : Str → Option Value} {base : Heap} {k : Nat} {f : Addr} {fd : FuncData} {ps : List Str} (G : FnOk P w K mg base CX0 k f fd ps (liftF K F_law)) : FnOk P w K mg base CX0 k f fd ps (spLaw K) :=
  G.imp fun vs H Q E ⟨a, ns, e, hS, _, q⟩ => ⟨none, H, [.scr ns], fun d => d = .bool true, ⟨Same.refl _, fun _ h => by cases h⟩, by subst e; exact .cons ⟨a, rfl, hS⟩ .nil, ⟨ns, rfl, rfl⟩, fun v d G' H' hd W R => by subst hd; cases R; exact q _⟩
theorem df_mk {K : Fg} {h : Heap} {mg : Str → Option Value} {x : Str} {st : Stmt} {ps : List Str} {f : Addr} {oc : Value} {od an : Option Addr} {osl : Array (Option Value)} {kV doc pm cdv ct : Value} (X : K.In h) (G : h.Ns mainGlobals mg) (a : PySem.W.nsIn K mainGlobals x = some (some (.ref f)))
    (l : K.lookup f = some ⟨oc, od, .func (PySem.W.fnOf x x (defArgs st) (defBody st) (defScope st) .none kV doc pm an cdv ct), osl⟩) (c : PySem.W.codeIn K cdv x = true) (k : PySem.W.keepIn K (.ref f) = true)
    (b : ∀ (kV doc pm : Value) (an : Option Addr) (cdv ct : Value) (us : List Value), us.length = ps.length → bindArgs (PySem.W.fnOf x x (defArgs st) (defBody st) (defScope st) .none kV doc pm an cdv ct) ⟨us, []⟩ = pure (ps.zip us)) : Df K mg x st ps f (PySem.W.fnOf x x (defArgs st) (defBody st) (defScope st) .none kV doc pm an cdv ct) :=
  ⟨fun_mk l c k, PySem.W.mg_of X G a, (fun_mk (st := st) l c k).binds b⟩
theorem all_mk {l : PySem.W.OpenLaw} {w : World} {K : Fg} {h : Heap} {mg : Str → Option Value} {fa f0 f1 f2 f3 f4 f5 f6 f7 f8 f9 f10 f11 f12 f13 f14 f15 f16 f17 f18 f19 f20 f21 f22 f23 f24 f25 f26 f27 f28 f29 f30 f31 f32 f33 f34 : Addr} (X : K.In h) (G : h.Ns mainGlobals mg) (hfa : mg "law" = some (.ref fa))
    {od0 an0 od1 an1 od2 an2 od3 an3 od4 an4 od5 an5 od6 an6 od7 an7 od8 an8 od9 an9 od10 an10 od11 an11 od12 an12 od13 an13 od14 an14 od15 an15 od16 an16 od17 an17 od18 an18 od19 an19 od20 an20 od21 an21 od22 an22 od23 an23 od24 an24 od25 an25 od26 an26 od27 an27 od28 an28 od29 an29 od30 an30 od31 an31 od32 an32 od33 an33 od34 an34 : Option Addr} {sl0 sl1 sl2 sl3 sl4 sl5 sl6 sl7 sl8 sl9 sl10 sl11 sl12 sl13 sl14 sl15 sl16 sl17 sl18 sl19 sl20 sl21 sl22 sl23 sl24 sl25 sl26 sl27 sl28 sl29 sl30 sl31 sl32 sl33 sl34 : Array (Option Value)} {oc0 kV0 dc0 pm0 cd0 ct0 oc1 kV1 dc1 pm1 cd1 ct1 oc2 kV2 dc2 pm2 cd2 ct2 oc3 kV3 dc3 pm3 cd3 ct3 oc4 kV4 dc4 pm4 cd4 ct4 oc5 kV5 dc5 pm5 cd5 ct5 oc6 kV6 dc6 pm6 cd6 ct6 oc7 kV7 dc7 pm7 cd7 ct7 oc8 kV8 dc8 pm8 cd8 ct8 oc9 kV9 dc9 pm9 cd9 ct9 oc10 kV10 dc10 pm10 cd10 ct10 oc11 kV11 dc11 pm11 cd11 ct11 oc12 kV12 dc12 pm12 cd12 ct12 oc13 kV13 dc13 pm13 cd13 ct13 oc14 kV14 dc14 pm14 cd14 ct14 oc15 kV15 dc15 pm15 cd15 ct15 oc16 kV16 dc16 pm16 cd16 ct16 oc17 kV17 dc17 pm17 cd17 ct17 oc18 kV18 dc18 pm18 cd18 ct18 oc19 kV19 dc19 pm19 cd19 ct19 oc20 kV20 dc20 pm20 cd20 ct20 oc21 kV21 dc21 pm21 cd21 ct21 oc22 kV22 dc22 pm22 cd22 ct22 oc23 kV23 dc23 pm23 cd23 ct23 oc24 kV24 dc24 pm24 cd24 ct24 oc25 kV25 dc25 pm25 cd25 ct25 oc26 kV26 dc26 pm26 cd26 ct26 oc27 kV27 dc27 pm27 cd27 ct27 oc28 kV28 dc28 pm28 cd28 ct28 oc29 kV29 dc29 pm29 cd29 ct29 oc30 kV30 dc30 pm30 cd30 ct30 oc31 kV31 dc31 pm31 cd31 ct31 oc32 kV32 dc32 pm32 cd32 ct32 oc33 kV33 dc33 pm33 cd33 ct33 oc34 kV34 dc34 pm34 cd34 ct34 : Value}
    (a0 : PySem.W.nsIn K mainGlobals "_law_taken" = some (some (.ref f0))) (l0 : K.lookup f0 = some ⟨oc0, od0, .func (PySem.W.fnOf "_law_taken" "_law_taken" (defArgs s__law_taken) (defBody s__law_taken) (defScope s__law_taken) .none kV0 dc0 pm0 an0 cd0 ct0), sl0⟩) (c0 : PySem.W.codeIn K cd0 "_law_taken" = true) (k0 : PySem.W.keepIn K (.ref f0) = true)
    (a1 : PySem.W.nsIn K mainGlobals "_law_pick" = some (some (.ref f1))) (l1 : K.lookup f1 = some ⟨oc1, od1, .func (PySem.W.fnOf "_law_pick" "_law_pick" (defArgs s__law_pick) (defBody s__law_pick) (defScope s__law_pick) .none kV1 dc1 pm1 an1 cd1 ct1), sl1⟩) (c1 : PySem.W.codeIn K cd1 "_law_pick" = true) (k1 : PySem.W.keepIn K (.ref f1) = true)
    (a2 : PySem.W.nsIn K mainGlobals "_law_plan" = some (some (.ref f2))) (l2 : K.lookup f2 = some ⟨oc2, od2, .func (PySem.W.fnOf "_law_plan" "_law_plan" (defArgs s__law_plan) (defBody s__law_plan) (defScope s__law_plan) .none kV2 dc2 pm2 an2 cd2 ct2), sl2⟩) (c2 : PySem.W.codeIn K cd2 "_law_plan" = true) (k2 : PySem.W.keepIn K (.ref f2) = true)
    (a3 : PySem.W.nsIn K mainGlobals "_law_reader" = some (some (.ref f3))) (l3 : K.lookup f3 = some ⟨oc3, od3, .func (PySem.W.fnOf "_law_reader" "_law_reader" (defArgs s__law_reader) (defBody s__law_reader) (defScope s__law_reader) .none kV3 dc3 pm3 an3 cd3 ct3), sl3⟩) (c3 : PySem.W.codeIn K cd3 "_law_reader" = true) (k3 : PySem.W.keepIn K (.ref f3) = true)
    (a4 : PySem.W.nsIn K mainGlobals "is_row" = some (some (.ref f4))) (l4 : K.lookup f4 = some ⟨oc4, od4, .func (PySem.W.fnOf "is_row" "is_row" (defArgs s_is_row) (defBody s_is_row) (defScope s_is_row) .none kV4 dc4 pm4 an4 cd4 ct4), sl4⟩) (c4 : PySem.W.codeIn K cd4 "is_row" = true) (k4 : PySem.W.keepIn K (.ref f4) = true)
    (a5 : PySem.W.nsIn K mainGlobals "is_whole" = some (some (.ref f5))) (l5 : K.lookup f5 = some ⟨oc5, od5, .func (PySem.W.fnOf "is_whole" "is_whole" (defArgs s_is_whole) (defBody s_is_whole) (defScope s_is_whole) .none kV5 dc5 pm5 an5 cd5 ct5), sl5⟩) (c5 : PySem.W.codeIn K cd5 "is_whole" = true) (k5 : PySem.W.keepIn K (.ref f5) = true)
    (a6 : PySem.W.nsIn K mainGlobals "is_span" = some (some (.ref f6))) (l6 : K.lookup f6 = some ⟨oc6, od6, .func (PySem.W.fnOf "is_span" "is_span" (defArgs s_is_span) (defBody s_is_span) (defScope s_is_span) .none kV6 dc6 pm6 an6 cd6 ct6), sl6⟩) (c6 : PySem.W.codeIn K cd6 "is_span" = true) (k6 : PySem.W.keepIn K (.ref f6) = true)
    (a7 : PySem.W.nsIn K mainGlobals "is_letter" = some (some (.ref f7))) (l7 : K.lookup f7 = some ⟨oc7, od7, .func (PySem.W.fnOf "is_letter" "is_letter" (defArgs s_is_letter) (defBody s_is_letter) (defScope s_is_letter) .none kV7 dc7 pm7 an7 cd7 ct7), sl7⟩) (c7 : PySem.W.codeIn K cd7 "is_letter" = true) (k7 : PySem.W.keepIn K (.ref f7) = true)
    (a8 : PySem.W.nsIn K mainGlobals "is_write" = some (some (.ref f8))) (l8 : K.lookup f8 = some ⟨oc8, od8, .func (PySem.W.fnOf "is_write" "is_write" (defArgs s_is_write) (defBody s_is_write) (defScope s_is_write) .none kV8 dc8 pm8 an8 cd8 ct8), sl8⟩) (c8 : PySem.W.codeIn K cd8 "is_write" = true) (k8 : PySem.W.keepIn K (.ref f8) = true)
    (a9 : PySem.W.nsIn K mainGlobals "is_plan" = some (some (.ref f9))) (l9 : K.lookup f9 = some ⟨oc9, od9, .func (PySem.W.fnOf "is_plan" "is_plan" (defArgs s_is_plan) (defBody s_is_plan) (defScope s_is_plan) .none kV9 dc9 pm9 an9 cd9 ct9), sl9⟩) (c9 : PySem.W.codeIn K cd9 "is_plan" = true) (k9 : PySem.W.keepIn K (.ref f9) = true)
    (a10 : PySem.W.nsIn K mainGlobals "check_plan" = some (some (.ref f10))) (l10 : K.lookup f10 = some ⟨oc10, od10, .func (PySem.W.fnOf "check_plan" "check_plan" (defArgs s_check_plan) (defBody s_check_plan) (defScope s_check_plan) .none kV10 dc10 pm10 an10 cd10 ct10), sl10⟩) (c10 : PySem.W.codeIn K cd10 "check_plan" = true) (k10 : PySem.W.keepIn K (.ref f10) = true)
    (a11 : PySem.W.nsIn K mainGlobals "is_look" = some (some (.ref f11))) (l11 : K.lookup f11 = some ⟨oc11, od11, .func (PySem.W.fnOf "is_look" "is_look" (defArgs s_is_look) (defBody s_is_look) (defScope s_is_look) .none kV11 dc11 pm11 an11 cd11 ct11), sl11⟩) (c11 : PySem.W.codeIn K cd11 "is_look" = true) (k11 : PySem.W.keepIn K (.ref f11) = true)
    (a12 : PySem.W.nsIn K mainGlobals "is_reader" = some (some (.ref f12))) (l12 : K.lookup f12 = some ⟨oc12, od12, .func (PySem.W.fnOf "is_reader" "is_reader" (defArgs s_is_reader) (defBody s_is_reader) (defScope s_is_reader) .none kV12 dc12 pm12 an12 cd12 ct12), sl12⟩) (c12 : PySem.W.codeIn K cd12 "is_reader" = true) (k12 : PySem.W.keepIn K (.ref f12) = true)
    (a13 : PySem.W.nsIn K mainGlobals "check_reader" = some (some (.ref f13))) (l13 : K.lookup f13 = some ⟨oc13, od13, .func (PySem.W.fnOf "check_reader" "check_reader" (defArgs s_check_reader) (defBody s_check_reader) (defScope s_check_reader) .none kV13 dc13 pm13 an13 cd13 ct13), sl13⟩) (c13 : PySem.W.codeIn K cd13 "check_reader" = true) (k13 : PySem.W.keepIn K (.ref f13) = true)
    (a14 : PySem.W.nsIn K mainGlobals "is_case" = some (some (.ref f14))) (l14 : K.lookup f14 = some ⟨oc14, od14, .func (PySem.W.fnOf "is_case" "is_case" (defArgs s_is_case) (defBody s_is_case) (defScope s_is_case) .none kV14 dc14 pm14 an14 cd14 ct14), sl14⟩) (c14 : PySem.W.codeIn K cd14 "is_case" = true) (k14 : PySem.W.keepIn K (.ref f14) = true)
    (a15 : PySem.W.nsIn K mainGlobals "is_choice" = some (some (.ref f15))) (l15 : K.lookup f15 = some ⟨oc15, od15, .func (PySem.W.fnOf "is_choice" "is_choice" (defArgs s_is_choice) (defBody s_is_choice) (defScope s_is_choice) .none kV15 dc15 pm15 an15 cd15 ct15), sl15⟩) (c15 : PySem.W.codeIn K cd15 "is_choice" = true) (k15 : PySem.W.keepIn K (.ref f15) = true)
    (a16 : PySem.W.nsIn K mainGlobals "check_choice" = some (some (.ref f16))) (l16 : K.lookup f16 = some ⟨oc16, od16, .func (PySem.W.fnOf "check_choice" "check_choice" (defArgs s_check_choice) (defBody s_check_choice) (defScope s_check_choice) .none kV16 dc16 pm16 an16 cd16 ct16), sl16⟩) (c16 : PySem.W.codeIn K cd16 "check_choice" = true) (k16 : PySem.W.keepIn K (.ref f16) = true)
    (a17 : PySem.W.nsIn K mainGlobals "rest_bounds" = some (some (.ref f17))) (l17 : K.lookup f17 = some ⟨oc17, od17, .func (PySem.W.fnOf "rest_bounds" "rest_bounds" (defArgs s_rest_bounds) (defBody s_rest_bounds) (defScope s_rest_bounds) .none kV17 dc17 pm17 an17 cd17 ct17), sl17⟩) (c17 : PySem.W.codeIn K cd17 "rest_bounds" = true) (k17 : PySem.W.keepIn K (.ref f17) = true)
    (a18 : PySem.W.nsIn K mainGlobals "write_differences" = some (some (.ref f18))) (l18 : K.lookup f18 = some ⟨oc18, od18, .func (PySem.W.fnOf "write_differences" "write_differences" (defArgs s_write_differences) (defBody s_write_differences) (defScope s_write_differences) .none kV18 dc18 pm18 an18 cd18 ct18), sl18⟩) (c18 : PySem.W.codeIn K cd18 "write_differences" = true) (k18 : PySem.W.keepIn K (.ref f18) = true)
    (a19 : PySem.W.nsIn K mainGlobals "start_event" = some (some (.ref f19))) (l19 : K.lookup f19 = some ⟨oc19, od19, .func (PySem.W.fnOf "start_event" "start_event" (defArgs s_start_event) (defBody s_start_event) (defScope s_start_event) .none kV19 dc19 pm19 an19 cd19 ct19), sl19⟩) (c19 : PySem.W.codeIn K cd19 "start_event" = true) (k19 : PySem.W.keepIn K (.ref f19) = true)
    (a20 : PySem.W.nsIn K mainGlobals "case_differences" = some (some (.ref f20))) (l20 : K.lookup f20 = some ⟨oc20, od20, .func (PySem.W.fnOf "case_differences" "case_differences" (defArgs s_case_differences) (defBody s_case_differences) (defScope s_case_differences) .none kV20 dc20 pm20 an20 cd20 ct20), sl20⟩) (c20 : PySem.W.codeIn K cd20 "case_differences" = true) (k20 : PySem.W.keepIn K (.ref f20) = true)
    (a21 : PySem.W.nsIn K mainGlobals "look_differences" = some (some (.ref f21))) (l21 : K.lookup f21 = some ⟨oc21, od21, .func (PySem.W.fnOf "look_differences" "look_differences" (defArgs s_look_differences) (defBody s_look_differences) (defScope s_look_differences) .none kV21 dc21 pm21 an21 cd21 ct21), sl21⟩) (c21 : PySem.W.codeIn K cd21 "look_differences" = true) (k21 : PySem.W.keepIn K (.ref f21) = true)
    (a22 : PySem.W.nsIn K mainGlobals "least_told" = some (some (.ref f22))) (l22 : K.lookup f22 = some ⟨oc22, od22, .func (PySem.W.fnOf "least_told" "least_told" (defArgs s_least_told) (defBody s_least_told) (defScope s_least_told) .none kV22 dc22 pm22 an22 cd22 ct22), sl22⟩) (c22 : PySem.W.codeIn K cd22 "least_told" = true) (k22 : PySem.W.keepIn K (.ref f22) = true)
    (a23 : PySem.W.nsIn K mainGlobals "differences" = some (some (.ref f23))) (l23 : K.lookup f23 = some ⟨oc23, od23, .func (PySem.W.fnOf "differences" "differences" (defArgs s_differences) (defBody s_differences) (defScope s_differences) .none kV23 dc23 pm23 an23 cd23 ct23), sl23⟩) (c23 : PySem.W.codeIn K cd23 "differences" = true) (k23 : PySem.W.keepIn K (.ref f23) = true)
    (a24 : PySem.W.nsIn K mainGlobals "_law_all" = some (some (.ref f24))) (l24 : K.lookup f24 = some ⟨oc24, od24, .func (PySem.W.fnOf "_law_all" "_law_all" (defArgs s__law_all) (defBody s__law_all) (defScope s__law_all) .none kV24 dc24 pm24 an24 cd24 ct24), sl24⟩) (c24 : PySem.W.codeIn K cd24 "_law_all" = true) (k24 : PySem.W.keepIn K (.ref f24) = true)
    (a25 : PySem.W.nsIn K mainGlobals "_law_paces" = some (some (.ref f25))) (l25 : K.lookup f25 = some ⟨oc25, od25, .func (PySem.W.fnOf "_law_paces" "_law_paces" (defArgs s__law_paces) (defBody s__law_paces) (defScope s__law_paces) .none kV25 dc25 pm25 an25 cd25 ct25), sl25⟩) (c25 : PySem.W.codeIn K cd25 "_law_paces" = true) (k25 : PySem.W.keepIn K (.ref f25) = true)
    (a26 : PySem.W.nsIn K mainGlobals "ring_from" = some (some (.ref f26))) (l26 : K.lookup f26 = some ⟨oc26, od26, .func (PySem.W.fnOf "ring_from" "ring_from" (defArgs s_ring_from) (defBody s_ring_from) (defScope s_ring_from) .none kV26 dc26 pm26 an26 cd26 ct26), sl26⟩) (c26 : PySem.W.codeIn K cd26 "ring_from" = true) (k26 : PySem.W.keepIn K (.ref f26) = true)
    (a27 : PySem.W.nsIn K mainGlobals "negative_ring" = some (some (.ref f27))) (l27 : K.lookup f27 = some ⟨oc27, od27, .func (PySem.W.fnOf "negative_ring" "negative_ring" (defArgs s_negative_ring) (defBody s_negative_ring) (defScope s_negative_ring) .none kV27 dc27 pm27 an27 cd27 ct27), sl27⟩) (c27 : PySem.W.codeIn K cd27 "negative_ring" = true) (k27 : PySem.W.keepIn K (.ref f27) = true)
    (a28 : PySem.W.nsIn K mainGlobals "ring" = some (some (.ref f28))) (l28 : K.lookup f28 = some ⟨oc28, od28, .func (PySem.W.fnOf "ring" "ring" (defArgs s_ring) (defBody s_ring) (defScope s_ring) .none kV28 dc28 pm28 an28 cd28 ct28), sl28⟩) (c28 : PySem.W.codeIn K cd28 "ring" = true) (k28 : PySem.W.keepIn K (.ref f28) = true)
    (a29 : PySem.W.nsIn K mainGlobals "_law_alike" = some (some (.ref f29))) (l29 : K.lookup f29 = some ⟨oc29, od29, .func (PySem.W.fnOf "_law_alike" "_law_alike" (defArgs s__law_alike) (defBody s__law_alike) (defScope s__law_alike) .none kV29 dc29 pm29 an29 cd29 ct29), sl29⟩) (c29 : PySem.W.codeIn K cd29 "_law_alike" = true) (k29 : PySem.W.keepIn K (.ref f29) = true)
    (a30 : PySem.W.nsIn K mainGlobals "_law_ticks" = some (some (.ref f30))) (l30 : K.lookup f30 = some ⟨oc30, od30, .func (PySem.W.fnOf "_law_ticks" "_law_ticks" (defArgs s__law_ticks) (defBody s__law_ticks) (defScope s__law_ticks) .none kV30 dc30 pm30 an30 cd30 ct30), sl30⟩) (c30 : PySem.W.codeIn K cd30 "_law_ticks" = true) (k30 : PySem.W.keepIn K (.ref f30) = true)
    (a31 : PySem.W.nsIn K mainGlobals "look_cases" = some (some (.ref f31))) (l31 : K.lookup f31 = some ⟨oc31, od31, .func (PySem.W.fnOf "look_cases" "look_cases" (defArgs s_look_cases) (defBody s_look_cases) (defScope s_look_cases) .none kV31 dc31 pm31 an31 cd31 ct31), sl31⟩) (c31 : PySem.W.codeIn K cd31 "look_cases" = true) (k31 : PySem.W.keepIn K (.ref f31) = true)
    (a32 : PySem.W.nsIn K mainGlobals "cases" = some (some (.ref f32))) (l32 : K.lookup f32 = some ⟨oc32, od32, .func (PySem.W.fnOf "cases" "cases" (defArgs s_cases) (defBody s_cases) (defScope s_cases) .none kV32 dc32 pm32 an32 cd32 ct32), sl32⟩) (c32 : PySem.W.codeIn K cd32 "cases" = true) (k32 : PySem.W.keepIn K (.ref f32) = true)
    (a33 : PySem.W.nsIn K mainGlobals "_law_case" = some (some (.ref f33))) (l33 : K.lookup f33 = some ⟨oc33, od33, .func (PySem.W.fnOf "_law_case" "_law_case" (defArgs s__law_case) (defBody s__law_case) (defScope s__law_case) .none kV33 dc33 pm33 an33 cd33 ct33), sl33⟩) (c33 : PySem.W.codeIn K cd33 "_law_case" = true) (k33 : PySem.W.keepIn K (.ref f33) = true)
    (a34 : PySem.W.nsIn K mainGlobals "law" = some (some (.ref f34))) (l34 : K.lookup f34 = some ⟨oc34, od34, .func (PySem.W.fnOf "law" "law" (defArgs s_law) (defBody s_law) (defScope s_law) .none kV34 dc34 pm34 an34 cd34 ct34), sl34⟩) (c34 : PySem.W.codeIn K cd34 "law" = true) (k34 : PySem.W.keepIn K (.ref f34) = true)
    (z0 : PySem.W.nsIn K mainGlobals "len" = some none)    (z1 : PySem.W.nsIn K mainGlobals "isinstance" = some none)    (z2 : PySem.W.nsIn K mainGlobals "int" = some none)    (z3 : PySem.W.nsIn K mainGlobals "bool" = some none)    (z4 : PySem.W.nsIn K mainGlobals "str" = some none)    (z5 : PySem.W.nsIn K mainGlobals "tuple" = some none)    (z6 : PySem.W.nsIn K mainGlobals "list" = some none)    (z7 : PySem.W.nsIn K mainGlobals "dict" = some none)    (z8 : PySem.W.nsIn K mainGlobals "set" = some none)    (z9 : PySem.W.nsIn K mainGlobals "all" = some none)    (z10 : PySem.W.nsIn K mainGlobals "any" = some none)    (z11 : PySem.W.nsIn K mainGlobals "zip" = some none)    (z12 : PySem.W.nsIn K mainGlobals "range" = some none)    (z13 : PySem.W.nsIn K mainGlobals "enumerate" = some none)    (z14 : PySem.W.nsIn K mainGlobals "sorted" = some none)    (z15 : PySem.W.nsIn K mainGlobals "min" = some none)    (z16 : PySem.W.nsIn K mainGlobals "max" = some none)    (z17 : PySem.W.nsIn K mainGlobals "sum" = some none) :
    ∃ fd : FuncData, (∀ (s : Shared) (v : Value), BindsTo s fd ⟨[v], []⟩ [("script", v)]) ∧ ∀ base : Heap, K.In base → base.Ns mainGlobals mg → FnOk l.prog w K mg base CX0 10 fa fd ["script"] (spLaw K) := by
  have e := hfa.symm.trans (PySem.W.mg_of X G a34)
  cases e
  have B : Blt mg := ⟨PySem.W.mg_none_of X G z0, PySem.W.mg_none_of X G z1, PySem.W.mg_none_of X G z2, PySem.W.mg_none_of X G z3, PySem.W.mg_none_of X G z4, PySem.W.mg_none_of X G z5, PySem.W.mg_none_of X G z6, PySem.W.mg_none_of X G z7, PySem.W.mg_none_of X G z8, PySem.W.mg_none_of X G z9, PySem.W.mg_none_of X G z10, PySem.W.mg_none_of X G z11, PySem.W.mg_none_of X G z12, PySem.W.mg_none_of X G z13, PySem.W.mg_none_of X G z14, PySem.W.mg_none_of X G z15, PySem.W.mg_none_of X G z16, PySem.W.mg_none_of X G z17⟩
  have D__law_taken := df_mk (st := s__law_taken) (ps := ["row", "many"]) X G a0 l0 c0 k0 fun _ _ _ _ _ _ us hl => match us, hl with | [_, _], _ => rfl
  have D__law_pick := df_mk (st := s__law_pick) (ps := ["row", "things"]) X G a1 l1 c1 k1 fun _ _ _ _ _ _ us hl => match us, hl with | [_, _], _ => rfl
  have D__law_plan := df_mk (st := s__law_plan) (ps := ["row", "most", "wide"]) X G a2 l2 c2 k2 fun _ _ _ _ _ _ us hl => match us, hl with | [_, _, _], _ => rfl
  have D__law_reader := df_mk (st := s__law_reader) (ps := ["row", "plan", "most", "wide"]) X G a3 l3 c3 k3 fun _ _ _ _ _ _ us hl => match us, hl with | [_, _, _, _], _ => rfl
  have D_is_row := df_mk (st := s_is_row) (ps := ["value", "least", "most"]) X G a4 l4 c4 k4 fun _ _ _ _ _ _ us hl => match us, hl with | [_, _, _], _ => rfl
  have D_is_whole := df_mk (st := s_is_whole) (ps := ["value", "low", "high"]) X G a5 l5 c5 k5 fun _ _ _ _ _ _ us hl => match us, hl with | [_, _, _], _ => rfl
  have D_is_span := df_mk (st := s_is_span) (ps := ["low", "high", "most"]) X G a6 l6 c6 k6 fun _ _ _ _ _ _ us hl => match us, hl with | [_, _, _], _ => rfl
  have D_is_letter := df_mk (st := s_is_letter) (ps := ["value"]) X G a7 l7 c7 k7 fun _ _ _ _ _ _ us hl => match us, hl with | [_], _ => rfl
  have D_is_write := df_mk (st := s_is_write) (ps := ["value", "cells", "inks"]) X G a8 l8 c8 k8 fun _ _ _ _ _ _ us hl => match us, hl with | [_, _, _], _ => rfl
  have D_is_plan := df_mk (st := s_is_plan) (ps := ["value"]) X G a9 l9 c9 k9 fun _ _ _ _ _ _ us hl => match us, hl with | [_], _ => rfl
  have D_check_plan := df_mk (st := s_check_plan) (ps := ["plan"]) X G a10 l10 c10 k10 fun _ _ _ _ _ _ us hl => match us, hl with | [_], _ => rfl
  have D_is_look := df_mk (st := s_is_look) (ps := ["plan", "value"]) X G a11 l11 c11 k11 fun _ _ _ _ _ _ us hl => match us, hl with | [_, _], _ => rfl
  have D_is_reader := df_mk (st := s_is_reader) (ps := ["plan", "value"]) X G a12 l12 c12 k12 fun _ _ _ _ _ _ us hl => match us, hl with | [_, _], _ => rfl
  have D_check_reader := df_mk (st := s_check_reader) (ps := ["plan", "reader"]) X G a13 l13 c13 k13 fun _ _ _ _ _ _ us hl => match us, hl with | [_, _], _ => rfl
  have D_is_case := df_mk (st := s_is_case) (ps := ["plan", "look", "value"]) X G a14 l14 c14 k14 fun _ _ _ _ _ _ us hl => match us, hl with | [_, _, _], _ => rfl
  have D_is_choice := df_mk (st := s_is_choice) (ps := ["plan", "reader", "value"]) X G a15 l15 c15 k15 fun _ _ _ _ _ _ us hl => match us, hl with | [_, _, _], _ => rfl
  have D_check_choice := df_mk (st := s_check_choice) (ps := ["plan", "reader", "choice"]) X G a16 l16 c16 k16 fun _ _ _ _ _ _ us hl => match us, hl with | [_, _, _], _ => rfl
  have D_rest_bounds := df_mk (st := s_rest_bounds) (ps := ["plan"]) X G a17 l17 c17 k17 fun _ _ _ _ _ _ us hl => match us, hl with | [_], _ => rfl
  have D_write_differences := df_mk (st := s_write_differences) (ps := ["plan"]) X G a18 l18 c18 k18 fun _ _ _ _ _ _ us hl => match us, hl with | [_], _ => rfl
  have D_start_event := df_mk (st := s_start_event) (ps := ["reader"]) X G a19 l19 c19 k19 fun _ _ _ _ _ _ us hl => match us, hl with | [_], _ => rfl
  have D_case_differences := df_mk (st := s_case_differences) (ps := ["plan", "event", "cell", "case"]) X G a20 l20 c20 k20 fun _ _ _ _ _ _ us hl => match us, hl with | [_, _, _, _], _ => rfl
  have D_look_differences := df_mk (st := s_look_differences) (ps := ["plan", "reader", "at", "case"]) X G a21 l21 c21 k21 fun _ _ _ _ _ _ us hl => match us, hl with | [_, _, _, _], _ => rfl
  have D_least_told := df_mk (st := s_least_told) (ps := ["told"]) X G a22 l22 c22 k22 fun _ _ _ _ _ _ us hl => match us, hl with | [_], _ => rfl
  have D_differences := df_mk (st := s_differences) (ps := ["plan", "reader", "choice"]) X G a23 l23 c23 k23 fun _ _ _ _ _ _ us hl => match us, hl with | [_, _, _], _ => rfl
  have D__law_all := df_mk (st := s__law_all) (ps := ["bounds"]) X G a24 l24 c24 k24 fun _ _ _ _ _ _ us hl => match us, hl with | [_], _ => rfl
  have D__law_paces := df_mk (st := s__law_paces) (ps := ["plan"]) X G a25 l25 c25 k25 fun _ _ _ _ _ _ us hl => match us, hl with | [_], _ => rfl
  have D_ring_from := df_mk (st := s_ring_from) (ps := ["follows", "first"]) X G a26 l26 c26 k26 fun _ _ _ _ _ _ us hl => match us, hl with | [_, _], _ => rfl
  have D_negative_ring := df_mk (st := s_negative_ring) (ps := ["events", "told"]) X G a27 l27 c27 k27 fun _ _ _ _ _ _ us hl => match us, hl with | [_, _], _ => rfl
  have D_ring := df_mk (st := s_ring) (ps := ["plan", "reader", "choice"]) X G a28 l28 c28 k28 fun _ _ _ _ _ _ us hl => match us, hl with | [_, _, _], _ => rfl
  have D__law_alike := df_mk (st := s__law_alike) (ps := ["found", "due"]) X G a29 l29 c29 k29 fun _ _ _ _ _ _ us hl => match us, hl with | [_, _], _ => rfl
  have D__law_ticks := df_mk (st := s__law_ticks) (ps := ["rests", "first"]) X G a30 l30 c30 k30 fun _ _ _ _ _ _ us hl => match us, hl with | [_, _], _ => rfl
  have D_look_cases := df_mk (st := s_look_cases) (ps := ["plan", "look"]) X G a31 l31 c31 k31 fun _ _ _ _ _ _ us hl => match us, hl with | [_, _], _ => rfl
  have D_cases := df_mk (st := s_cases) (ps := ["plan", "reader", "at"]) X G a32 l32 c32 k32 fun _ _ _ _ _ _ us hl => match us, hl with | [_, _, _], _ => rfl
  have D__law_case := df_mk (st := s__law_case) (ps := ["plan", "told", "cell", "tick"]) X G a33 l33 c33 k33 fun _ _ _ _ _ _ us hl => match us, hl with | [_, _, _, _], _ => rfl
  have D_law := df_mk (st := s_law) (ps := ["script"]) X G a34 l34 c34 k34 fun _ _ _ _ _ _ us hl => match us, hl with | [_], _ => rfl
  refine ⟨PySem.W.fnOf "law" "law" (defArgs s_law) (defBody s_law) (defScope s_law) .none kV34 dc34 pm34 an34 cd34 ct34, fun s v => .of_eq rfl, fun base _ _ => ?_⟩
  have G__law_taken := ok__law_taken (P' := l.prog) (w := w) (base := base) D__law_taken.fn B
  have G__law_pick := ok__law_pick (P := l.prog) (w := w) (base := base) D__law_pick.fn B D__law_taken G__law_taken
  have G__law_plan := ok__law_plan (P := l.prog) (w := w) (base := base) D__law_plan.fn B D__law_taken G__law_taken D__law_pick G__law_pick
  have G__law_reader := ok__law_reader (P := l.prog) (w := w) (base := base) D__law_reader.fn B D__law_taken G__law_taken
  have G_is_row := ok_is_row (P := l.prog) (w := w) (base := base) D_is_row.fn B
  have G_is_whole := ok_is_whole (P := l.prog) (w := w) (base := base) D_is_whole.fn B
  have G_is_span := ok_is_span (P := l.prog) (w := w) (base := base) D_is_span.fn B D_is_whole G_is_whole
  have G_is_letter := ok_is_letter (P := l.prog) (w := w) (base := base) D_is_letter.fn B
  have G_is_write := ok_is_write (P := l.prog) (w := w) (base := base) D_is_write.fn B D_is_span G_is_span D_is_row G_is_row D_is_whole G_is_whole D_is_letter G_is_letter
  have G_is_plan := ok_is_plan (P := l.prog) (w := w) (base := base) D_is_plan.fn B D_is_row G_is_row D_is_whole G_is_whole D_is_write G_is_write
  have G_check_plan := ok_check_plan (P := l.prog) (w := w) (base := base) D_check_plan.fn B D_is_plan G_is_plan
  have G_is_look := ok_is_look (P := l.prog) (w := w) (base := base) D_is_look.fn B D_is_row G_is_row D_is_whole G_is_whole D_is_span G_is_span
  have G_is_reader := ok_is_reader (P := l.prog) (w := w) (base := base) D_is_reader.fn B D_is_row G_is_row D_is_whole G_is_whole D_is_look G_is_look
  have G_check_reader := ok_check_reader (P := l.prog) (w := w) (base := base) D_check_reader.fn B D_check_plan G_check_plan D_is_reader G_is_reader
  have G_is_case := ok_is_case (P := l.prog) (w := w) (base := base) D_is_case.fn B D_is_whole G_is_whole D_is_row G_is_row
  have G_is_choice := ok_is_choice (P := l.prog) (w := w) (base := base) D_is_choice.fn B D_is_row G_is_row D_is_case G_is_case
  have G_check_choice := ok_check_choice (P := l.prog) (w := w) (base := base) D_check_choice.fn B D_check_reader G_check_reader D_is_choice G_is_choice
  have G_rest_bounds := ok_rest_bounds (P := l.prog) (w := w) (base := base) D_rest_bounds.fn B
  have G_write_differences := ok_write_differences (P := l.prog) (w := w) (base := base) D_write_differences.fn B D_rest_bounds G_rest_bounds
  have G_start_event := ok_start_event (P := l.prog) (w := w) (base := base) D_start_event.fn B
  have G_case_differences := ok_case_differences (P := l.prog) (w := w) (base := base) D_case_differences.fn B
  have G_look_differences := ok_look_differences (P := l.prog) (w := w) (base := base) D_look_differences.fn B D_start_event G_start_event D_case_differences G_case_differences
  have G_least_told := ok_least_told (P := l.prog) (w := w) (base := base) D_least_told.fn B
  have G_differences := ok_differences (P := l.prog) (w := w) (base := base) D_differences.fn B D_check_choice G_check_choice D_write_differences G_write_differences D_look_differences G_look_differences D_least_told G_least_told
  have G__law_all := ok__law_all (P := l.prog) (w := w) (base := base) D__law_all.fn B
  have G__law_paces := ok__law_paces (P := l.prog) (w := w) (base := base) D__law_paces.fn B D__law_all G__law_all
  have G_ring_from := ok_ring_from (P := l.prog) (w := w) (base := base) D_ring_from.fn B
  have G_negative_ring := ok_negative_ring (P := l.prog) (w := w) (base := base) D_negative_ring.fn B D_ring_from G_ring_from
  have G_ring := ok_ring (P := l.prog) (w := w) (base := base) D_ring.fn B D_differences G_differences D_negative_ring G_negative_ring
  have G__law_alike := n__law_alike (P := l.prog) (w := w) (base := base) D__law_alike B 4
  have G__law_ticks := ok__law_ticks (P := l.prog) (w := w) (base := base) D__law_ticks.fn B
  have G_look_cases := ok_look_cases (P := l.prog) (w := w) (base := base) D_look_cases.fn B
  have G_cases := ok_cases (P := l.prog) (w := w) (base := base) D_cases.fn B D_check_reader G_check_reader D_is_whole G_is_whole D_look_cases G_look_cases
  have G__law_case := ok__law_case (P := l.prog) (w := w) (base := base) D__law_case.fn B
  have G_law := ok_law (P := l.prog) (w := w) (base := base) D_law.fn B D__law_plan G__law_plan D__law_reader G__law_reader D_differences G_differences D__law_all G__law_all D__law_paces G__law_paces D_ring G_ring D__law_alike G__law_alike D__law_pick G__law_pick D__law_ticks G__law_ticks D_cases G_cases D__law_case G__law_case
  exact law_imp G_law
end PF
open PySem PySem.W PyProof.Rows
set_option maxRecDepth 100000 in
set_option maxHeartbeats 0 in
theorem PySem.Challenge.cw_fadinginks_k03_whole_differences_holds : PySem.Challenge.rw_fadinginks_k03_whole_differences.Holds := by
  w_on; o_law; k_head; (case hw => w_witness2)
  k_fill
  refine L2.walk_of (l := PySem.Challenge.rw_fadinginks_k03_whole_differences) (n := 63) (k := 10) (x := "script") (CX := fun _ => L2.CX0) (sp := fun w => PF.spLaw _) rfl (by decide) rfl ⟨rfl, by decide, by decide⟩ (fun w h Y => PySem.W.kIn_of Y) ?F (fun _ _ a ns hl _ hS => ⟨a, ns, rfl, hS, hl, fun _ => rfl⟩) (fun _ _ _ _ _ h => h)
  case F =>
    intro w mg fa h KX G hmg
    refine' PF.all_mk KX G hmg ?a0 ?l0 ?c0 ?k0 ?a1 ?l1 ?c1 ?k1 ?a2 ?l2 ?c2 ?k2 ?a3 ?l3 ?c3 ?k3 ?a4 ?l4 ?c4 ?k4 ?a5 ?l5 ?c5 ?k5 ?a6 ?l6 ?c6 ?k6 ?a7 ?l7 ?c7 ?k7 ?a8 ?l8 ?c8 ?k8 ?a9 ?l9 ?c9 ?k9 ?a10 ?l10 ?c10 ?k10 ?a11 ?l11 ?c11 ?k11 ?a12 ?l12 ?c12 ?k12 ?a13 ?l13 ?c13 ?k13 ?a14 ?l14 ?c14 ?k14 ?a15 ?l15 ?c15 ?k15 ?a16 ?l16 ?c16 ?k16 ?a17 ?l17 ?c17 ?k17 ?a18 ?l18 ?c18 ?k18 ?a19 ?l19 ?c19 ?k19 ?a20 ?l20 ?c20 ?k20 ?a21 ?l21 ?c21 ?k21 ?a22 ?l22 ?c22 ?k22 ?a23 ?l23 ?c23 ?k23 ?a24 ?l24 ?c24 ?k24 ?a25 ?l25 ?c25 ?k25 ?a26 ?l26 ?c26 ?k26 ?a27 ?l27 ?c27 ?k27 ?a28 ?l28 ?c28 ?k28 ?a29 ?l29 ?c29 ?k29 ?a30 ?l30 ?c30 ?k30 ?a31 ?l31 ?c31 ?k31 ?a32 ?l32 ?c32 ?k32 ?a33 ?l33 ?c33 ?k33 ?a34 ?l34 ?c34 ?k34 ?z0 ?z1 ?z2 ?z3 ?z4 ?z5 ?z6 ?z7 ?z8 ?z9 ?z10 ?z11 ?z12 ?z13 ?z14 ?z15 ?z16 ?z17
    (case a0 => k_is)
    (case l0 => k_is)
    (case c0 => k_is)
    (case k0 => k_is)
    (case a1 => k_is)
    (case l1 => k_is)
    (case c1 => k_is)
    (case k1 => k_is)
    (case a2 => k_is)
    (case l2 => k_is)
    (case c2 => k_is)
    (case k2 => k_is)
    (case a3 => k_is)
    (case l3 => k_is)
    (case c3 => k_is)
    (case k3 => k_is)
    (case a4 => k_is)
    (case l4 => k_is)
    (case c4 => k_is)
    (case k4 => k_is)
    (case a5 => k_is)
    (case l5 => k_is)
    (case c5 => k_is)
    (case k5 => k_is)
    (case a6 => k_is)
    (case l6 => k_is)
    (case c6 => k_is)
    (case k6 => k_is)
    (case a7 => k_is)
    (case l7 => k_is)
    (case c7 => k_is)
    (case k7 => k_is)
    (case a8 => k_is)
    (case l8 => k_is)
    (case c8 => k_is)
    (case k8 => k_is)
    (case a9 => k_is)
    (case l9 => k_is)
    (case c9 => k_is)
    (case k9 => k_is)
    (case a10 => k_is)
    (case l10 => k_is)
    (case c10 => k_is)
    (case k10 => k_is)
    (case a11 => k_is)
    (case l11 => k_is)
    (case c11 => k_is)
    (case k11 => k_is)
    (case a12 => k_is)
    (case l12 => k_is)
    (case c12 => k_is)
    (case k12 => k_is)
    (case a13 => k_is)
    (case l13 => k_is)
    (case c13 => k_is)
    (case k13 => k_is)
    (case a14 => k_is)
    (case l14 => k_is)
    (case c14 => k_is)
    (case k14 => k_is)
    (case a15 => k_is)
    (case l15 => k_is)
    (case c15 => k_is)
    (case k15 => k_is)
    (case a16 => k_is)
    (case l16 => k_is)
    (case c16 => k_is)
    (case k16 => k_is)
    (case a17 => k_is)
    (case l17 => k_is)
    (case c17 => k_is)
    (case k17 => k_is)
    (case a18 => k_is)
    (case l18 => k_is)
    (case c18 => k_is)
    (case k18 => k_is)
    (case a19 => k_is)
    (case l19 => k_is)
    (case c19 => k_is)
    (case k19 => k_is)
    (case a20 => k_is)
    (case l20 => k_is)
    (case c20 => k_is)
    (case k20 => k_is)
    (case a21 => k_is)
    (case l21 => k_is)
    (case c21 => k_is)
    (case k21 => k_is)
    (case a22 => k_is)
    (case l22 => k_is)
    (case c22 => k_is)
    (case k22 => k_is)
    (case a23 => k_is)
    (case l23 => k_is)
    (case c23 => k_is)
    (case k23 => k_is)
    (case a24 => k_is)
    (case l24 => k_is)
    (case c24 => k_is)
    (case k24 => k_is)
    (case a25 => k_is)
    (case l25 => k_is)
    (case c25 => k_is)
    (case k25 => k_is)
    (case a26 => k_is)
    (case l26 => k_is)
    (case c26 => k_is)
    (case k26 => k_is)
    (case a27 => k_is)
    (case l27 => k_is)
    (case c27 => k_is)
    (case k27 => k_is)
    (case a28 => k_is)
    (case l28 => k_is)
    (case c28 => k_is)
    (case k28 => k_is)
    (case a29 => k_is)
    (case l29 => k_is)
    (case c29 => k_is)
    (case k29 => k_is)
    (case a30 => k_is)
    (case l30 => k_is)
    (case c30 => k_is)
    (case k30 => k_is)
    (case a31 => k_is)
    (case l31 => k_is)
    (case c31 => k_is)
    (case k31 => k_is)
    (case a32 => k_is)
    (case l32 => k_is)
    (case c32 => k_is)
    (case k32 => k_is)
    (case a33 => k_is)
    (case l33 => k_is)
    (case c33 => k_is)
    (case k33 => k_is)
    (case a34 => k_is)
    (case l34 => k_is)
    (case c34 => k_is)
    (case k34 => k_is)
    (case z0 => k_is)
    (case z1 => k_is)
    (case z2 => k_is)
    (case z3 => k_is)
    (case z4 => k_is)
    (case z5 => k_is)
    (case z6 => k_is)
    (case z7 => k_is)
    (case z8 => k_is)
    (case z9 => k_is)
    (case z10 => k_is)
    (case z11 => k_is)
    (case z12 => k_is)
    (case z13 => k_is)
    (case z14 => k_is)
    (case z15 => k_is)
    (case z16 => k_is)
    (case z17 => k_is)
