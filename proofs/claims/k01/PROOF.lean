import PyProof.Rows.All
import Wide.All
import OpenK.AllK
import Wide.FinOn
import HandS.ForMost
import HandS.ForExc
import HandS.Zip
import HandS.Walk
import HandS.IsInst
import HandS.Lambda
import HandS.Style
import HandS.TupAny
import HandS.TupMul
import HandS.SortInts
import KE.GoesNew
import KE.GoesMore
import KE.GoesEnum
import HandS.Text
import HandS.Conv
import HandS.More
import PyProof.Rows.SortShellAny
import PyProof.ListStr
import PyProof.AutoSeq1
import HandS.StrMore
import KE.KRevSl
import PyProof.MinMaxWalk
import PyProof.WalkInts
import HandS.Set
import HandS.SetFor
import HandS.SetKeys
import PyProof.Rows.SetFrom
import HandS.DictTup
import HandS.TupSets
import HandS.TryMany
import HandS.ExcOwn
import HandS.RaiseMore
import KE.KDflt
import HandS.FStr
import HandS.EndTab
import PySem.Challenge.RW_fadinginks_k01_plans_refused
set_option Elab.async false
set_option linter.all false
set_option maxRecDepth 100000
set_option maxHeartbeats 4000000
/-! PD: values by what they say (data), over the hand layer. -/
namespace PD
open PySem PySem.Spec PyProof.Rows L2

abbrev Fg := PySem.W.Frag
abbrev Dt := PyData

def keyD : Key → Dt
  | .inl i => .int i
  | .inr s => .str s

/-- the first entry of a dict whose keys are tuples, as data: a mark -/
def markE : Dt × Dt := (.none, .none)
def entD (p : List Key × Dt) : Dt × Dt := (.tuple (p.1.map keyD), p.2)
/-! ### what a value says, over the frozen heap G -/
mutual
inductive Rep (K : Fg) (G : Hp) : V → Dt → Prop
  | non : Rep K G .non .none
  | bl (b : Bool) : Rep K G (.bl b) (.bool b)
  | int (i : Int) : Rep K G (.int i) (.int i)
  | str (x : Str) : Rep K G (.str x) (.str x)
  | lst {a : Addr} {xs : List V} {ds : List Dt} : G a = some (.lst xs) → Reps K G xs ds → Rep K G (.ref a) (.list ds)
  | tup {a : Addr} {xs : List V} {ds : List Dt} : G a = some (.tup xs) → Reps K G xs ds → Rep K G (.ref a) (.tuple ds)
  | dic {a : Addr} {o : Obj} {kvs : List (Key × V)} {ds : List (Dt × Dt)} : G a = some (.frz o (.dK kvs)) → RepK K G kvs ds → Rep K G (.ref a) (.dict ds)
  | dicT {a : Addr} {o : Obj} {kvs : List (List Key × V)} {l : List (List Key × Dt)} : G a = some (.frz o (.dT kvs)) → RepT K G kvs l → Rep K G (.ref a) (.dict (markE :: l.map entD))
inductive Reps (K : Fg) (G : Hp) : List V → List Dt → Prop
  | nil : Reps K G [] []
  | cons {v : V} {vs : List V} {d : Dt} {ds : List Dt} : Rep K G v d → Reps K G vs ds → Reps K G (v :: vs) (d :: ds)
inductive RepK (K : Fg) (G : Hp) : List (Key × V) → List (Dt × Dt) → Prop
  | nil : RepK K G [] []
  | cons {k : Key} {v : V} {vs : List (Key × V)} {d : Dt} {ds : List (Dt × Dt)} : Rep K G v d → RepK K G vs ds → RepK K G ((k, v) :: vs) ((keyD k, d) :: ds)
inductive RepT (K : Fg) (G : Hp) : List (List Key × V) → List (List Key × Dt) → Prop
  | nil : RepT K G [] []
  | cons {k : List Key} {v : V} {vs : List (List Key × V)} {d : Dt} {ds : List (List Key × Dt)} : Rep K G v d → RepT K G vs ds → RepT K G ((k, v) :: vs) ((k, d) :: ds)
end

theorem same_rd {H H' : Hp} {a : Addr} {u : HO} (e : Same H H') (h : Rd H a u) : Rd H' a u := h.elim (fun h => .inl (e _ _ h)) fun ⟨o, h⟩ => .inr ⟨o, e _ _ h⟩
theorem same_seqT {K : Fg} {H H' : Hp} {a : Addr} {xs : List V} (e : Same H H') (h : SqT K H a xs) : SqT K H' a xs := by
  rcases h with (h | ⟨o, h⟩) | h
  · exact .inl (.inl (e _ _ h))
  · exact .inl (.inr ⟨o, e _ _ h⟩)
  · exact .inr h

theorem same_seqP {K : Fg} {H H' : Hp} {a : Addr} {xs : List V} (e : Same H H') (h : H a = some (.tup xs)) : SqT K H' a xs := .inl (.inl (e _ _ h))
section
variable {K : Fg} {G G' H : Hp}
theorem Rep.mono (h : Same G G') {v : V} {d : Dt} (r : Rep K G v d) : Rep K G' v d :=
  Rep.rec (motive_1 := fun v d _ => Rep K G' v d) (motive_2 := fun vs ds _ => Reps K G' vs ds) (motive_3 := fun vs ds _ => RepK K G' vs ds) (motive_4 := fun vs ds _ => RepT K G' vs ds)
    .non .bl .int .str (fun e _ ih => .lst (h _ _ e) ih) (fun e _ ih => .tup (h _ _ e) ih) (fun e _ ih => .dic (h _ _ e) ih) (fun e _ ih => .dicT (h _ _ e) ih)
    .nil (fun _ _ a b => .cons a b) .nil (fun _ _ a b => .cons a b) .nil (fun _ _ a b => .cons a b) r
theorem Reps.mono (h : Same G G') : ∀ {vs : List V} {ds : List Dt}, Reps K G vs ds → Reps K G' vs ds
  | _, _, .nil => .nil
  | _, _, .cons a b => .cons (a.mono h) (Reps.mono h b)
theorem RepK.mono (h : Same G G') : ∀ {vs : List (Key × V)} {ds : List (Dt × Dt)}, RepK K G vs ds → RepK K G' vs ds
  | _, _, .nil => .nil
  | _, _, .cons a b => .cons (a.mono h) (RepK.mono h b)
theorem RepT.mono (h : Same G G') : ∀ {vs : List (List Key × V)} {ds : List (List Key × Dt)}, RepT K G vs ds → RepT K G' vs ds
  | _, _, .nil => .nil
  | _, _, .cons a b => .cons (a.mono h) (RepT.mono h b)
theorem RepT.length : ∀ {vs : List (List Key × V)} {ds : List (List Key × Dt)}, RepT K G vs ds → vs.length = ds.length
  | _, _, .nil => rfl
  | _, _, .cons _ b => by simp [RepT.length b]
theorem Reps.length : ∀ {vs : List V} {ds : List Dt}, Reps K G vs ds → vs.length = ds.length
  | _, _, .nil => rfl
  | _, _, .cons _ b => by simp [Reps.length b]
theorem RepK.length : ∀ {vs : List (Key × V)} {ds : List (Dt × Dt)}, RepK K G vs ds → vs.length = ds.length
  | _, _, .nil => rfl
  | _, _, .cons _ b => by simp [RepK.length b]
theorem Reps.get : ∀ {vs : List V} {ds : List Dt} {i : Nat} {d : Dt}, Reps K G vs ds → ds[i]? = some d → ∃ v, vs[i]? = some v ∧ Rep K G v d
  | _, _, _, _, .nil, e => by simp at e
  | _, _, 0, _, .cons r _, e => by simp at e; subst e; exact ⟨_, rfl, r⟩
  | _, _, i + 1, _, .cons _ t, e => by
    obtain ⟨u, h1, h2⟩ := Reps.get (i := i) t (by simpa using e)
    exact ⟨u, by simpa using h1, h2⟩
theorem Reps.get' : ∀ {vs : List V} {ds : List Dt} {i : Nat} {v : V}, Reps K G vs ds → vs[i]? = some v → ∃ d, ds[i]? = some d ∧ Rep K G v d
  | _, _, _, _, .nil, e => by simp at e
  | _, _, 0, _, .cons r _, e => by simp at e; subst e; exact ⟨_, rfl, r⟩
  | _, _, i + 1, _, .cons _ t, e => by
    obtain ⟨u, h1, h2⟩ := Reps.get' (i := i) t (by simpa using e)
    exact ⟨u, by simpa using h1, h2⟩
theorem Reps.append : ∀ {xs ys : List V} {ds es : List Dt}, Reps K G xs ds → Reps K G ys es → Reps K G (xs ++ ys) (ds ++ es)
  | _, _, _, _, .nil, s => s
  | _, _, _, _, .cons r t, s => .cons r (Reps.append t s)
theorem Reps.snoc {xs : List V} {ds : List Dt} {v : V} {d : Dt} (r : Reps K G xs ds) (h : Rep K G v d) : Reps K G (xs ++ [v]) (ds ++ [d]) := r.append (.cons h .nil)
theorem Reps.set {v : V} {d : Dt} (h : Rep K G v d) : ∀ {xs : List V} {ds : List Dt} (i : Nat), Reps K G xs ds → Reps K G (xs.set i v) (ds.set i d)
  | _, _, _, .nil => .nil
  | _, _, 0, .cons _ t => .cons h t
  | _, _, i + 1, .cons q t => .cons q (Reps.set h i t)
theorem Reps.take : ∀ {xs : List V} {ds : List Dt} (n : Nat), Reps K G xs ds → Reps K G (xs.take n) (ds.take n)
  | _, _, 0, _ => .nil
  | _, _, _ + 1, .nil => .nil
  | _, _, n + 1, .cons r t => .cons r (Reps.take n t)
theorem Reps.drop : ∀ {xs : List V} {ds : List Dt} (n : Nat), Reps K G xs ds → Reps K G (xs.drop n) (ds.drop n)
  | _, _, 0, r => r
  | _, _, _ + 1, .nil => .nil
  | _, _, n + 1, .cons _ t => Reps.drop n t
theorem Reps.rep {xs : List V} {ds : List Dt} (h : Reps K G xs ds) : ∀ k : Nat, Reps K G (List.replicate k xs).flatten (List.replicate k ds).flatten
  | 0 => .nil
  | k + 1 => by
    rw [List.replicate_succ, List.replicate_succ, List.flatten_cons, List.flatten_cons]
    exact h.append (Reps.rep h k)
theorem Reps.ints : ∀ {ns : List Int} {vs : List V}, Reps K G vs (ns.map .int) → vs = ns.map V.int
  | [], _, h => by cases h; rfl
  | n :: ns, _, h => by
    cases h with
    | cons a b => cases a; rw [Reps.ints b]; rfl
theorem Reps.bls : ∀ {ns : List Bool} {vs : List V}, Reps K G vs (ns.map .bool) → vs = ns.map V.bl
  | [], _, h => by cases h; rfl
  | n :: ns, _, h => by
    cases h with
    | cons a b => cases a; rw [Reps.bls b]; rfl
theorem Reps.strs : ∀ {ns : List Str} {vs : List V}, Reps K G vs (ns.map .str) → vs = ns.map V.str
  | [], _, h => by cases h; rfl
  | n :: ns, _, h => by
    cases h with
    | cons a b => cases a; rw [Reps.strs b]; rfl
theorem Reps.of_ints : ∀ {ns : List Int}, Reps K G (ns.map V.int) (ns.map .int)
  | [] => .nil
  | _ :: _ => .cons (.int _) Reps.of_ints
theorem Reps.of_strs : ∀ {ns : List Str}, Reps K G (ns.map V.str) (ns.map .str)
  | [] => .nil
  | _ :: _ => .cons (.str _) Reps.of_strs
end

/-! ### the law's own stream of draws: a list of the script and three ints -/
def RowOk (K : Fg) (G H : Hp) (a : Addr) : Prop := ∃ (sa : Addr) (ns : List Int) (i s q : Int), H a = some (.lst [.ref sa, .int i, .int s, .int q]) ∧ SqL K G sa (ns.map V.int) ∧ 0 ≤ i
theorem RowOk.at {K : Fg} {G G' H H' : Hp} {a : Addr} (h : RowOk K G H a) (g : Same G G') (e : H' a = H a) : RowOk K G' H' a := by
  obtain ⟨sa, ns, i, s, q, h1, h2, h3⟩ := h
  exact ⟨sa, ns, i, s, q, e.trans h1, g.seq h2, h3⟩

/-! ### how the heaps go on -/
/-- no table of code objects -/
def NT (o : HO) : Prop := ∀ ps, o ≠ .tbl ps
/-- the name that the code objects in the table at P bear -/
def nmOf (K : Fg) (P : Addr) : Str :=
  match K.find? fun p => match p.2.data with
    | .func fd => (match fd.code with
      | .ref c => (match K.lookup c with
        | some o => (match o.data with
          | .fields vs => (match (vs[11]? : Option Value) with
            | some (.ref P') => P' == P
            | _ => false)
          | _ => false)
        | none => false)
      | _ => false)
    | _ => false with
  | some p => (match p.2.data with
    | .func fd => (fd.qualname ++ ".<locals>.") ++ "<lambda>"
    | _ => "")
  | none => ""
/-- tables of code objects go on -/
structure TbGo (K : Fg) (H H' : Hp) : Prop where
  tb : ∀ P, LamX.TabS H P (nmOf K P) → LamX.TabS H' P (nmOf K P)
  tt : ∀ P ps, H P = some (.tbl ps) → ∃ ps', H' P = some (.tbl ps')
  ex : ∀ b φ, H b = some (.ext φ) → H' b = some (.ext φ)
theorem TbGo.refl {K : Fg} (H : Hp) : TbGo K H H := ⟨fun _ t => t, fun _ ps h => ⟨ps, h⟩, fun _ _ e => e⟩
theorem TbGo.trans {K : Fg} {H H1 H2 : Hp} (a : TbGo K H H1) (b : TbGo K H1 H2) : TbGo K H H2 := ⟨fun P t => b.tb P (a.tb P t), fun P ps h => by
  obtain ⟨ps', h'⟩ := a.tt P ps h
  exact b.tt P ps' h', fun c φ e => b.ex c φ (a.ex c φ e)⟩
theorem TbGo.of {K : Fg} {H H' : Hp} (e : ∀ b o, H b = some o → H' b = some o) : TbGo K H H' := ⟨fun _ t => t.ext e, fun _ ps h => ⟨ps, e _ _ h⟩, fun b φ h => e _ _ h⟩
theorem TbGo.upd {K : Fg} {H : Hp} {a : Addr} {o : HO} (n : ∀ u, H a = some u → NT u ∧ ∀ φ, u ≠ .ext φ) : TbGo K H (upd H a o) := by
  have ne : ∀ {b u}, H b = some u → ((∃ ps, u = .tbl ps) ∨ ∃ φ, u = .ext φ) → b ≠ a := fun {b u} e z q => by
    subst q
    rcases z with ⟨ps, rfl⟩ | ⟨φ, rfl⟩
    · exact (n _ e).1 ps rfl
    · exact (n _ e).2 φ rfl
  refine ⟨fun P t => ?_, fun P ps h => ⟨ps, (upd_ne (ne h (.inl ⟨ps, rfl⟩))).trans h⟩, fun b φ h => (upd_ne (ne h (.inr ⟨φ, rfl⟩))).trans h⟩
  obtain ⟨ps, h1, h2, h3⟩ := t
  refine ⟨ps, (upd_ne (ne h1 (.inl ⟨ps, rfl⟩))).trans h1, h2, fun pos cv hc => ?_⟩
  obtain ⟨c, e1, e2⟩ := h3 pos cv hc
  exact ⟨c, e1, (upd_ne (ne e2 (.inr ⟨_, rfl⟩))).trans e2⟩
structure Grow (K : Fg) (r : Option Addr) (G H G' H' : Hp) : Prop where
  g : Same G G'
  h0 : ∀ b o, r ≠ some b → NT o → H b = some o → H' b = some o
  gh : Same G' H'
  y : ∀ b o, H b = some o → G b = none → G' b = none
  row : ∀ a, r = some a → RowOk K G' H' a
  t : TbGo K H H'
  nt : ∀ b ps, G' b = some (.tbl ps) → G b = some (.tbl ps)
theorem Grow.h {K : Fg} {r : Option Addr} {G H G' H' : Hp} (W : Grow K r G H G' H') (b : Addr) (o : HO) (n : r ≠ some b) (e : H b = some o) (no : NT o := by intro _ z; cases z) : H' b = some o := W.h0 b o n no e
structure Start (K : Fg) (r : Option Addr) (G H : Hp) : Prop where
  gh : Same G H
  row : ∀ a, r = some a → G a = none ∧ RowOk K G H a
  nt : ∀ b ps, G b ≠ some (.tbl ps)
section
variable {K : Fg} {r : Option Addr} {G H G' H' G2 H2 : Hp}
theorem Start.grow (S : Start K r G H) : Grow K r G H G H := ⟨Same.refl _, fun _ _ _ _ e => e, S.gh, fun _ _ _ e => e, fun a e => (S.row a e).2, .refl _, fun _ _ e => e⟩
theorem Grow.start (W : Grow K r G H G' H') (S : Start K r G H) : Start K r G' H' := ⟨W.gh, fun a e => by
  obtain ⟨h1, _, _, _, _, _, h2, _⟩ := S.row a e
  exact ⟨W.y _ _ h2 h1, W.row a e⟩, fun b ps e => S.nt b ps (W.nt b ps e)⟩
theorem Grow.there (W : Grow K r G H G' H') {b : Addr} {o : HO} (e : H b = some o) : ∃ o', H' b = some o' := by
  by_cases h : r = some b
  · obtain ⟨_, _, _, _, _, q, _⟩ := W.row b h
    exact ⟨_, q⟩
  · by_cases n : NT o
    · exact ⟨_, W.h b o h e n⟩
    · obtain ⟨ps, hp⟩ := Classical.not_forall.mp n
      have hp := Classical.not_not.mp hp
      subst hp
      obtain ⟨ps', h'⟩ := W.t.tt b ps e
      exact ⟨_, h'⟩
theorem Grow.trans (a : Grow K r G H G' H') (b : Grow K r G' H' G2 H2) : Grow K r G H G2 H2 :=
  ⟨a.g.trans b.g, fun c o h n e => b.h0 c o h n (a.h0 c o h n e), b.gh, fun c o e n => by
    obtain ⟨o', e'⟩ := a.there e
    exact b.y c o' e' (a.y c o e n), b.row, a.t.trans b.t, fun c ps e => a.nt c ps (b.nt c ps e)⟩
/-- a new object, frozen at once -/
theorem Start.lay (S : Start K r G H) {p : Addr} {o : HO} (hp : H p = none) (no : NT o := by intro _ z; cases z) : Grow K r G H (upd G p o) (upd H p o) := by
  have gp : G p = none := S.gh.free hp
  refine ⟨fun b u e => ?_, fun b u _ _ e => ?_, fun b u e => ?_, fun b u e n => ?_, fun a e => ?_, .upd fun u e => (by rw [hp] at e; cases e), fun b ps e => ?_⟩
  · rw [upd_ne (ne_of_none e gp)]; exact e
  · rw [upd_ne (ne_of_none e hp)]; exact e
  · by_cases hb : b = p
    · subst hb; rw [upd_same] at e ⊢; exact e
    · rw [upd_ne hb] at e ⊢; exact S.gh _ _ e
  · rw [upd_ne (ne_of_none e hp)]; exact n
  · have q := (S.row a e).2
    obtain ⟨_, _, _, _, _, h2, _⟩ := id q
    exact q.at (fun b u e => by rw [upd_ne (ne_of_none e gp)]; exact e) (upd_ne (ne_of_none h2 hp))
  · by_cases hb : b = p
    · subst hb
      rw [upd_same] at e
      exact absurd (Option.some.inj e) (no ps)
    · rw [upd_ne hb] at e; exact e
theorem same_upd {H : Hp} {p : Addr} {o : HO} (h : H p = none) : Same H (upd H p o) := fun b x e => by
  rw [upd_ne (ne_of_none e h)]
  exact e
end

/-! ### the fields of an instance -/
inductive RepF (K : Fg) (G : Hp) : List (Str × V) → List (Str × Dt) → Prop
  | nil : RepF K G [] []
  | cons {f : Str} {v : V} {vs : List (Str × V)} {d : Dt} {ds : List (Str × Dt)} : Rep K G v d → RepF K G vs ds → RepF K G ((f, v) :: vs) ((f, d) :: ds)
theorem RepF.mono {K : Fg} {G G' : Hp} (h : Same G G') : ∀ {vs : List (Str × V)} {ds : List (Str × Dt)}, RepF K G vs ds → RepF K G' vs ds
  | _, _, .nil => .nil
  | _, _, .cons a b => .cons (a.mono h) (RepF.mono h b)
/-- a field's value: data, or a list of the instance's own -/
inductive Fv where
  | d (x : Dt)
  | own (b : Addr) (x : List Dt)

/-! ### the slots -/
inductive PV where
  | un
  | d (x : Dt)
  | own (x : Dt)
  | row
  | scr (ns : List Int)
  | rng (lo hi : Int)
  | ins (C : Addr) (fs : List (Str × Dt))
  | obj (C a : Addr) (fs : List (Str × Fv))
  | fz (p : Fg → Hp → Hp → Option V → Prop)
/-- an object of one's own, by what it says -/
inductive OwnR (K : Fg) (G H : Hp) (a : Addr) : Dt → Prop
  | lst {vs : List V} {ds : List Dt} : H a = some (.lst vs) → Reps K G vs ds → OwnR K G H a (.list ds)
  | dic {kvs : List (Key × V)} {ds : List (Dt × Dt)} : H a = some (.dK kvs) → RepK K G kvs ds → OwnR K G H a (.dict ds)
  | dicT {kvs : List (List Key × V)} {l : List (List Key × Dt)} : H a = some (.dT kvs) → RepT K G kvs l → OwnR K G H a (.dict (markE :: l.map entD))
theorem OwnR.at {K : Fg} {G G' H H' : Hp} {a : Addr} {d : Dt} (h : OwnR K G H a d) (g : Same G G') (e : H' a = H a) : OwnR K G' H' a d := by
  cases h with
  | lst h r => exact .lst (e.trans h) (r.mono g)
  | dic h r => exact .dic (e.trans h) (r.mono g)
  | dicT h r => exact .dicT (e.trans h) (r.mono g)
/-- what is one's own: neither table nor ext -/
def NE (o : HO) : Prop := NT o ∧ ∀ φ, o ≠ .ext φ
theorem ne_lst {xs : List V} : NE (.lst xs) := ⟨(by intro _ z; cases z), (by intro _ z; cases z)⟩
theorem ne_dK {xs : List (Key × V)} : NE (.dK xs) := ⟨(by intro _ z; cases z), (by intro _ z; cases z)⟩
theorem ne_dT {xs : List (List Key × V)} : NE (.dT xs) := ⟨(by intro _ z; cases z), (by intro _ z; cases z)⟩
theorem ne_ins {C d : Addr} {fs : List (Str × V)} : NE (.ins C d fs) := ⟨(by intro _ z; cases z), (by intro _ z; cases z)⟩
theorem ne_at {H : Hp} {a : Addr} {o : HO} (h : H a = some o) (n : NE o) : ∀ u, H a = some u → NE u := fun u e => by rw [h] at e; cases e; exact n
theorem ne_no {H : Hp} {a : Addr} (h : H a = none) : ∀ u, H a = some u → NE u := fun u e => by rw [h] at e; cases e
theorem OwnR.some {K : Fg} {G H : Hp} {a : Addr} {d : Dt} (h : OwnR K G H a d) : ∃ o, H a = some o ∧ NE o := by
  cases h with
  | lst h r => exact ⟨_, h, ⟨(by intro _ z; cases z), (by intro _ z; cases z)⟩⟩
  | dic h r => exact ⟨_, h, ⟨(by intro _ z; cases z), (by intro _ z; cases z)⟩⟩
  | dicT h r => exact ⟨_, h, ⟨(by intro _ z; cases z), (by intro _ z; cases z)⟩⟩
/-- the addresses that an instance of one's own takes -/
def fps : List (Str × Fv) → List Addr
  | [] => []
  | (_, .d _) :: fs => fps fs
  | (_, .own b _) :: fs => b :: fps fs
inductive ObF (K : Fg) (G H : Hp) : List (Str × V) → List (Str × Fv) → Prop
  | nil : ObF K G H [] []
  | d {f : Str} {v : V} {vs : List (Str × V)} {d : Dt} {fs : List (Str × Fv)} : Rep K G v d → ObF K G H vs fs → ObF K G H ((f, v) :: vs) ((f, .d d) :: fs)
  | own {f : Str} {b : Addr} {ws : List V} {vs : List (Str × V)} {xs : List Dt} {fs : List (Str × Fv)} : H b = some (.lst ws) → Reps K G ws xs → ObF K G H vs fs → ObF K G H ((f, .ref b) :: vs) ((f, .own b xs) :: fs)
theorem ObF.at {K : Fg} {G G' H H' : Hp} (g : Same G G') : ∀ {vs : List (Str × V)} {fs : List (Str × Fv)}, ObF K G H vs fs → (∀ b ∈ fps fs, H' b = H b) → ObF K G' H' vs fs
  | _, _, .nil, _ => .nil
  | _, _, .d a b, h => .d (a.mono g) (ObF.at g b h)
  | _, _, .own e a b, h => .own ((h _ (List.mem_cons_self ..)).trans e) (a.mono g) (ObF.at g b fun c hc => h c (List.mem_cons_of_mem _ hc))
theorem ObF.there {K : Fg} {G H : Hp} : ∀ {vs : List (Str × V)} {fs : List (Str × Fv)}, ObF K G H vs fs → ∀ b ∈ fps fs, ∃ o, H b = some o ∧ NE o
  | _, _, .nil, _, h => by cases h
  | _, _, .d a b, c, h => ObF.there b c h
  | _, _, .own e a b, c, h => by
    cases h with
    | head => exact ⟨_, e, ⟨(by intro _ z; cases z), (by intro _ z; cases z)⟩⟩
    | tail _ h => exact ObF.there b c h
structure ObR (K : Fg) (G H : Hp) (C a : Addr) (fs : List (Str × Fv)) : Prop where
  ob : ∃ dx vs, H a = some (.ins C dx vs) ∧ ObF K G H vs fs
  nd : (a :: fps fs).Nodup
theorem ObR.at {K : Fg} {G G' H H' : Hp} {C a : Addr} {fs : List (Str × Fv)} (h : ObR K G H C a fs) (g : Same G G') (e : ∀ b ∈ a :: fps fs, H' b = H b) : ObR K G' H' C a fs := by
  obtain ⟨⟨dx, vs, h1, h2⟩, nd⟩ := h
  exact ⟨⟨dx, vs, (e _ (List.mem_cons_self ..)).trans h1, h2.at g fun b hb => e b (List.mem_cons_of_mem _ hb)⟩, nd⟩
theorem ObR.there {K : Fg} {G H : Hp} {C a : Addr} {fs : List (Str × Fv)} (h : ObR K G H C a fs) : ∀ b ∈ a :: fps fs, ∃ o, H b = some o ∧ NE o := by
  obtain ⟨⟨dx, vs, h1, h2⟩, nd⟩ := h
  intro b hb
  cases hb with
  | head => exact ⟨_, h1, ⟨(by intro _ z; cases z), (by intro _ z; cases z)⟩⟩
  | tail _ hb => exact h2.there b hb
def SlotR (K : Fg) (r : Option Addr) (G H : Hp) (o : Option V) : PV → Prop
  | .un => True
  | .d x => ∃ v, o = some v ∧ Rep K G v x
  | .own x => ∃ a, o = some (.ref a) ∧ G a = none ∧ r ≠ some a ∧ OwnR K G H a x
  | .row => ∃ a, o = some (.ref a) ∧ r = some a
  | .scr ns => ∃ a, o = some (.ref a) ∧ SqL K G a (ns.map V.int)
  | .rng lo hi => ∃ a, o = some (.ref a) ∧ G a = some (.rng lo hi)
  | .ins C fs => ∃ a dx vs, o = some (.ref a) ∧ G a = some (.ins C dx vs) ∧ RepF K G vs fs
  | .obj C a fs => o = some (.ref a) ∧ ObR K G H C a fs ∧ ∀ b ∈ a :: fps fs, G b = none ∧ r ≠ some b
  | .fz p => ∀ G' H', Same G G' → TbGo K H H' → p K G' H' o

structure EnvR (K : Fg) (r : Option Addr) (G H : Hp) (σ : L2.St) (ρ : List PV) : Prop where
  st : Start K r G H
  len : σ.length = ρ.length
  slot : ∀ (i : Nat) (p : PV), ρ[i]? = some p → ∃ o, σ[i]? = some o ∧ SlotR K r G H o p
  dist : ∀ (i j : Nat) (a : Addr) (x y : Dt), ρ[i]? = some (.own x) → ρ[j]? = some (.own y) → σ[i]? = some (some (.ref a)) → σ[j]? = some (some (.ref a)) → i = j
  apart : ∀ (i j : Nat) (C a : Addr) (fs : List (Str × Fv)), ρ[i]? = some (.obj C a fs) → ((∀ x, ρ[j]? = some (.own x) → ∀ b ∈ a :: fps fs, σ[j]? ≠ some (some (.ref b))) ∧ (∀ D c gs, ρ[j]? = some (.obj D c gs) → i ≠ j → ∀ b ∈ a :: fps fs, b ∉ c :: fps gs))
section
variable {K : Fg} {r : Option Addr} {G H G' H' : Hp} {σ : L2.St} {ρ : List PV}
theorem SlotR.grow {o : Option V} {p : PV} (W : Grow K r G H G' H') (h : SlotR K r G H o p) : SlotR K r G' H' o p := by
  cases p with
  | un => trivial
  | d x =>
    obtain ⟨v, e, q⟩ := h
    exact ⟨v, e, q.mono W.g⟩
  | own x =>
    obtain ⟨a, e, ga, ne, q⟩ := h
    obtain ⟨o, ho, no⟩ := q.some
    exact ⟨a, e, W.y _ _ ho ga, ne, q.at W.g ((W.h a o ne ho no.1).trans ho.symm)⟩
  | row => exact h
  | scr ns =>
    obtain ⟨a, e, q⟩ := h
    exact ⟨a, e, W.g.seq q⟩
  | rng lo hi =>
    obtain ⟨a, e, q⟩ := h
    exact ⟨a, e, W.g _ _ q⟩
  | ins C fs =>
    obtain ⟨a, dx, vs, e, q, f⟩ := h
    exact ⟨a, dx, vs, e, W.g _ _ q, f.mono W.g⟩
  | obj C a fs =>
    obtain ⟨e, q, n⟩ := h
    refine ⟨e, q.at W.g fun b hb => ?_, fun b hb => ?_⟩
    · obtain ⟨o, ho, no⟩ := q.there b hb
      exact (W.h b o (n b hb).2 ho no.1).trans ho.symm
    · obtain ⟨o, ho, no⟩ := q.there b hb
      exact ⟨W.y _ _ ho (n b hb).1, (n b hb).2⟩
  | fz p => exact fun G2 H2 g t => h G2 H2 (W.g.trans g) (W.t.trans t)
theorem EnvR.grow (E : EnvR K r G H σ ρ) (W : Grow K r G H G' H') : EnvR K r G' H' σ ρ :=
  ⟨W.start E.st, E.len, fun i p e => by
    obtain ⟨o, h1, h2⟩ := E.slot i p e
    exact ⟨o, h1, h2.grow W⟩, E.dist, E.apart⟩
/-- a store into a slot of what is not one's own keeps all that is one's own apart -/
theorem apart_set {σ : L2.St} {ρ : List PV} {i : Nat} {o : Option V} {p : PV} (h : ∀ (i j : Nat) (C a : Addr) (fs : List (Str × Fv)), ρ[i]? = some (.obj C a fs) → ((∀ x, ρ[j]? = some (.own x) → ∀ b ∈ a :: fps fs, σ[j]? ≠ some (some (.ref b))) ∧ (∀ D c gs, ρ[j]? = some (.obj D c gs) → i ≠ j → ∀ b ∈ a :: fps fs, b ∉ c :: fps gs)))
    (no : ∀ x, p ≠ .own x) (nb : ∀ C a fs, p ≠ .obj C a fs) : ∀ (k j : Nat) (C a : Addr) (fs : List (Str × Fv)), (ρ.set i p)[k]? = some (.obj C a fs) → ((∀ x, (ρ.set i p)[j]? = some (.own x) → ∀ b ∈ a :: fps fs, (σ.set i o)[j]? ≠ some (some (.ref b))) ∧ (∀ D c gs, (ρ.set i p)[j]? = some (.obj D c gs) → k ≠ j → ∀ b ∈ a :: fps fs, b ∉ c :: fps gs)) := by
  intro k j C a fs e
  have fall : ∀ {m : Nat} {q : PV}, (ρ.set i p)[m]? = some q → q ≠ p → m ≠ i ∧ ρ[m]? = some q := fun {m q} e n => by
    by_cases hm : m = i
    · subst hm
      rw [List.getElem?_set] at e
      simp only [if_true] at e
      split at e
      · cases e; exact absurd rfl n
      · cases e
    · rw [List.getElem?_set_ne (Ne.symm hm)] at e
      exact ⟨hm, e⟩
  obtain ⟨k1, k2⟩ := fall e fun z => nb C a fs z.symm
  refine ⟨fun x ex b hb => ?_, fun D c gs eg nk => ?_⟩
  · obtain ⟨j1, j2⟩ := fall ex fun z => no x z.symm
    rw [List.getElem?_set_ne (Ne.symm j1)]
    exact (h k j C a fs k2).1 x j2 b hb
  · obtain ⟨j1, j2⟩ := fall eg fun z => nb D c gs z.symm
    exact (h k j C a fs k2).2 D c gs j2 nk
theorem EnvR.set (E : EnvR K r G H σ ρ) {i : Nat} {v : V} {x : Dt} (h : Rep K G v x) : EnvR K r G H (σ.set i (some v)) (ρ.set i (.d x)) := by
  refine ⟨E.st, by simp [E.len], fun j p e => ?_, fun j k a x' y' e1 e2 e3 e4 => ?_, apart_set E.apart (fun _ => by simp) (fun _ _ _ => by simp)⟩
  · by_cases hj : j = i
    · subst hj
      have hl : j < ρ.length := by
        have := (List.getElem?_eq_some_iff.mp e).1
        simpa using this
      rw [List.getElem?_set_self hl] at e
      cases e
      exact ⟨some v, List.getElem?_set_self (by rw [E.len]; exact hl), v, rfl, h⟩
    · rw [List.getElem?_set_ne (Ne.symm hj)] at e ⊢
      exact E.slot j p e
  · by_cases hj : j = i
    · subst hj
      rw [List.getElem?_set] at e1
      split at e1
      · split at e1 <;> cases e1
      · contradiction
    · by_cases hk : k = i
      · subst hk
        rw [List.getElem?_set] at e2
        split at e2
        · split at e2 <;> cases e2
        · contradiction
      · rw [List.getElem?_set_ne (Ne.symm hj)] at e1 e3
        rw [List.getElem?_set_ne (Ne.symm hk)] at e2 e4
        exact E.dist j k a x' y' e1 e2 e3 e4
theorem EnvR.get (E : EnvR K r G H σ ρ) {i : Nat} {x : Dt} (e : ρ[i]? = some (.d x)) : ∃ v, σ[i]? = some (some v) ∧ Rep K G v x := by
  obtain ⟨o, h1, v, rfl, h⟩ := E.slot i _ e
  exact ⟨v, h1, h⟩
theorem EnvR.getO (E : EnvR K r G H σ ρ) {i : Nat} {x : Dt} (e : ρ[i]? = some (.own x)) : ∃ a, σ[i]? = some (some (.ref a)) ∧ G a = none ∧ r ≠ some a ∧ OwnR K G H a x := by
  obtain ⟨o, h1, a, rfl, h⟩ := E.slot i _ e
  exact ⟨a, h1, h⟩
end

/-! ### readings of data -/
abbrev PT0 := List PV → (Dt → Prop) → Prop
abbrev PTT := List PV → (Bool → Prop) → Prop
abbrev PTA := List PV → (List Dt → Prop) → Prop
def liftE (K : Fg) (t : PT0) : TE := fun σ H Q => ∃ (r : Option Addr) (G : Hp) (ρ : List PV) (P : Dt → Prop), EnvR K r G H σ ρ ∧ t ρ P ∧ ∀ v d G' H', P d → Grow K r G H G' H' → Rep K G' v d → Q v H'
def liftT (K : Fg) (t : PTT) : TT := fun σ H Q => ∃ (r : Option Addr) (G : Hp) (ρ : List PV) (P : Bool → Prop), EnvR K r G H σ ρ ∧ t ρ P ∧ ∀ b G' H', P b → Grow K r G H G' H' → Q b H'
def liftA (K : Fg) (t : PTA) : TA := fun σ H Q => ∃ (r : Option Addr) (G : Hp) (ρ : List PV) (P : List Dt → Prop), EnvR K r G H σ ρ ∧ t ρ P ∧ ∀ vs ds G' H', P ds → Grow K r G H G' H' → Reps K G' vs ds → Q vs H'
def DE (X : Cx) (e : Expr) (t : PT0) : Prop := PE X e (liftE X.K t)
def DT (X : Cx) (e : Expr) (t : PTT) : Prop := PT X e (liftT X.K t)
def DA (X : Cx) (es : List Expr) (t : PTA) : Prop := PA X es (liftA X.K t)
theorem PE.weak {X : Cx} {e : Expr} {t u : TE} (h : PE X e t) (w : ∀ σ H Q, u σ H Q → t σ H Q) : PE X e u := ⟨fun pins s σ H Q I q => h.run pins s σ H Q I (w σ H Q q)⟩
theorem PT.weak {X : Cx} {e : Expr} {t u : TT} (h : PT X e t) (w : ∀ σ H Q, u σ H Q → t σ H Q) : PT X e u := ⟨fun pins s σ H Q I q => h.run pins s σ H Q I (w σ H Q q)⟩
theorem PA.weak {X : Cx} {e : List Expr} {t u : TA} (h : PA X e t) (w : ∀ σ H Q, u σ H Q → t σ H Q) : PA X e u := ⟨fun ps pins s σ H Q I q => h.run ps pins s σ H Q I (w σ H Q q)⟩
theorem PS.weak {X : Cx} {e : Stmt} {t u : TS} (h : PS X e t) (w : ∀ Dn σ H, u Dn σ H → t Dn σ H) : PS X e u := ⟨fun pins s σ H Dn I q => h.run pins s σ H Dn I (w Dn σ H q)⟩
theorem PSs.weak {X : Cx} {e : List Stmt} {t u : TS} (h : PSs X e t) (w : ∀ Dn σ H, u Dn σ H → t Dn σ H) : PSs X e u := ⟨fun pins s σ H Dn I q => h.run pins s σ H Dn I (w Dn σ H q)⟩

section
variable {X : Cx} {pos : Pos} {a b : Expr} {ta tb : PT0}
/-- a name that holds data -/
def dVar (i : Nat) : PT0 := fun ρ P => ∃ x, ρ[i]? = some (.d x) ∧ P x
theorem de_var (i : Nat) {x : Str} (hN : X.N[i]? = some x := by rfl) (hv : Vis X.env.scope x := by first | exact Or.inl rfl | exact Or.inr (Or.inl rfl) | exact Or.inr (Or.inr rfl)) (hd : (x == ("__debug__" : Str)) = false := by decide)
    (hcd : (x == ("__classdict__" : Str)) = false := by decide) : DE X (.Name x pos) (dVar i) := PE.weak (pe_var hN hv hd hcd) fun σ H Q ⟨r, G, ρ, P, E, ⟨x, e, p⟩, q⟩ => by
  obtain ⟨v, h1, h2⟩ := E.get e
  exact ⟨v, h1, q v x G H p E.st.grow h2⟩
def dC (d : Dt) : PT0 := fun _ P => P d
theorem de_int {i : Int} {j} : DE X (.Constant (.int i) j pos) (dC (.int i)) := PE.weak pe_int fun σ H Q ⟨r, G, ρ, P, E, p, q⟩ => q _ _ G H p E.st.grow (.int i)
theorem de_bl {i : Bool} {j} : DE X (.Constant (.bool i) j pos) (dC (.bool i)) := PE.weak pe_bl fun σ H Q ⟨r, G, ρ, P, E, p, q⟩ => q _ _ G H p E.st.grow (.bl i)
theorem de_str {i : Str} {j} : DE X (.Constant (.str i) j pos) (dC (.str i)) := PE.weak pe_str fun σ H Q ⟨r, G, ρ, P, E, p, q⟩ => q _ _ G H p E.st.grow (.str i)
theorem de_non {j} : DE X (.Constant .none j pos) (dC .none) := PE.weak pe_non fun σ H Q ⟨r, G, ρ, P, E, p, q⟩ => q _ _ G H p E.st.grow .non
end
end PD
namespace PD
open PySem PySem.Spec PyProof.Rows L2

/-! ### what a state tells of a datum's size -/
def Top : Dt → Prop
  | .list xs => xs.length ≤ sizeLine
  | .tuple xs => xs.length ≤ sizeLine
  | .dict xs => xs.length ≤ sizeLine + 1
  | _ => True
theorem top_of {X : Cx} {pins : List (Addr × Obj)} {σ : L2.St} {G H : Hp} {s : Shared} (I : Inv X pins σ H s) (g : Same G H) {v : V} {d : Dt} (r : Rep X.K G v d) : Top d := by
  cases r with
  | non => trivial
  | bl => trivial
  | int => trivial
  | str => trivial
  | lst e r =>
    obtain ⟨_, _, _, z⟩ := I.list (SqL.of (g _ _ e))
    show _ ≤ sizeLine
    rw [← r.length]
    exact z
  | tup e r =>
    obtain ⟨_, _, _, z⟩ := I.tuple (same_seqP g e)
    show _ ≤ sizeLine
    rw [← r.length]
    exact z
  | dic e r =>
    have z := (dk_rd I.hok (.inr ⟨_, g _ _ e⟩)).1
    show _ ≤ sizeLine + 1
    rw [← r.length]
    exact Nat.le_succ_of_le z
  | dicT e r =>
    have z := (dt_rd I.hok (.inr ⟨_, g _ _ e⟩)).1
    show _ ≤ sizeLine + 1
    rw [List.length_cons, List.length_map, ← r.length]
    exact Nat.succ_le_succ z
/-- the size of what comes is known -/
theorem de_top {X : Cx} {e : Expr} {t : PT0} (h : DE X e t) : DE X e (fun ρ P => t ρ fun d => Top d → P d) := by
  refine ⟨fun pins s σ H Q I ⟨r, G, ρ, P, E, p, q⟩ => ?_⟩
  refine thn (h.run pins s σ H (fun v H' => ∃ d G', (Top d → P d) ∧ Grow X.K r G H G' H' ∧ Rep X.K G' v d) I ⟨r, G, ρ, _, E, p, fun v d G' H' p' W R => ⟨d, G', p', W, R⟩⟩) fun u s' ⟨v, H', I', rv, d, G', p', W, R⟩ => ?_
  exact ⟨v, H', I', rv, q v d G' H' (p' (top_of I' W.gh R)) W R⟩

/-! ### operators by what their values say -/
abbrev F1 := Dt → (Dt → Prop) → Prop
abbrev F2 := Dt → Dt → (Dt → Prop) → Prop
def liftO (K : Fg) (f : F2) : R2 := fun x y H Q => ∃ (r : Option Addr) (G : Hp) (d e : Dt) (P : Dt → Prop), Start K r G H ∧ Rep K G x d ∧ Rep K G y e ∧ f d e P ∧ ∀ v z G' H', P z → Grow K r G H G' H' → Rep K G' v z → Q v H'
def liftU (K : Fg) (f : F1) : V → Hp → VK → Prop := fun x H Q => ∃ (r : Option Addr) (G : Hp) (d : Dt) (P : Dt → Prop), Start K r G H ∧ Rep K G x d ∧ f d P ∧ ∀ v z G' H', P z → Grow K r G H G' H' → Rep K G' v z → Q v H'
def DO (X : Cx) (f : Value → Value → Sem Value) (r : F2) : Prop := OpR X f (liftO X.K r)
def dBin (f : F2) (ta tb : PT0) : PT0 := fun ρ P => ta ρ fun x => tb ρ fun y => f x y P
def dUn (f : F1) (ta : PT0) : PT0 := fun ρ P => ta ρ fun x => f x P
section
variable {X : Cx} {pos : Pos} {a b c : Expr} {ta tb tc : PT0} {f f' : F2}
theorem lift_bin {σ : L2.St} {H : Hp} {Q : VK} (h : liftE X.K (dBin f ta tb) σ H Q) : tOp (liftO X.K f) (liftE X.K ta) (liftE X.K tb) σ H Q := by
  obtain ⟨r, G, ρ, P, E, p, q⟩ := h
  exact ⟨r, G, ρ, _, E, p, fun v x G1 H1 p1 W1 R1 => ⟨r, G1, ρ, _, E.grow W1, p1, fun u y G2 H2 p2 W2 R2 => ⟨r, G2, x, y, P, W2.start (W1.start E.st), R1.mono W2.g, R2, p2, fun w z G3 H3 p3 W3 R3 => q w z G3 H3 p3 ((W1.trans W2).trans W3) R3⟩⟩⟩
theorem de_op {op : Operator} (ho : DO X (binaryOp op) f) (ha : DE X a ta) (hb : DE X b tb) : DE X (.BinOp a op b pos) (dBin f ta tb) := PE.weak (pe_op ho ha hb) fun σ H Q h => lift_bin h
theorem de_cmp {op : CmpOp} (ho : DO X (compareOp op) f) (ha : DE X a ta) (hb : DE X b tb) (hm : behindInMarks op b = false := by first | exact nomark _ | rfl) : DE X (.Compare a [op] [b] pos) (dBin f ta tb) := PE.weak (pe_cmpR ho ha hb hm) fun σ H Q h => lift_bin h
/-- a value that is a bool, as a test -/
def dTest (t : PT0) : PTT := fun ρ P => t ρ fun x => ∃ k, x = .bool k ∧ P k
theorem lift_test {σ : L2.St} {H : Hp} {Q : Bool → Hp → Prop} {t : PT0} (h : liftT X.K (dTest t) σ H Q) : liftE X.K t σ H fun x H' => ∃ k, x = .bl k ∧ Q k H' := by
  obtain ⟨r, G, ρ, P, E, p, q⟩ := h
  refine ⟨r, G, ρ, _, E, p, fun v x G1 H1 ⟨k, e, p1⟩ W1 R1 => ?_⟩
  subst e
  cases R1
  exact ⟨k, rfl, q k G1 H1 p1 W1⟩
theorem dt_cmp {op : CmpOp} (ho : DO X (compareOp op) f) (ha : DE X a ta) (hb : DE X b tb) (hm : behindInMarks op b = false := by first | exact nomark _ | rfl) : DT X (.Compare a [op] [b] pos) (dTest (dBin f ta tb)) :=
  PT.weak (pt_cmpR ho ha hb hm) fun σ H Q h => by
    obtain ⟨r, G, ρ, P, E, p, q⟩ := lift_test h
    exact lift_bin ⟨r, G, ρ, P, E, p, q⟩
/-- a op1 b op2 c -/
def dChain (f f' : F2) (ta tb tc : PT0) : PT0 := fun ρ P => ta ρ fun x => tb ρ fun y => f x y fun z => ∃ k, z = .bool k ∧ if k = true then tc ρ fun w => f' y w P else P (.bool false)
theorem lift_chain {σ : L2.St} {H : Hp} {Q : VK} (h : liftE X.K (dChain f f' ta tb tc) σ H Q) : tChain (liftO X.K f) (liftO X.K f') (liftE X.K ta) (liftE X.K tb) (liftE X.K tc) σ H Q := by
  obtain ⟨r, G, ρ, P, E, p, q⟩ := h
  refine ⟨r, G, ρ, _, E, p, fun v x G1 H1 p1 W1 R1 => ⟨r, G1, ρ, _, E.grow W1, p1, fun u y G2 H2 p2 W2 R2 => ⟨r, G2, x, y, _, W2.start (W1.start E.st), R1.mono W2.g, R2, p2, fun w z G3 H3 p3 W3 R3 => ?_⟩⟩⟩
  obtain ⟨k, e, p3⟩ := p3
  subst e
  cases R3
  have W := (W1.trans W2).trans W3
  refine ⟨k, rfl, ?_⟩
  cases k with
  | false => exact q _ _ G3 H3 p3 W (.bl false)
  | true =>
    rw [if_pos rfl] at p3 ⊢
    exact ⟨r, G3, ρ, _, E.grow W, p3, fun w z G4 H4 p4 W4 R4 => ⟨r, G4, y, z, P, W4.start (W.start E.st), R2.mono (W3.g.trans W4.g), R4, p4, fun w z G5 H5 p5 W5 R5 => q w z G5 H5 p5 ((W.trans W4).trans W5) R5⟩⟩
theorem de_chain {op op' : CmpOp} (ho : DO X (compareOp op) f) (ho' : DO X (compareOp op') f') (ha : DE X a ta) (hb : DE X b tb) (hc : DE X c tc)
    (hm : lastMarks [op, op'] [b, c] = false := by with_unfolding_all rfl) : DE X (.Compare a [op, op'] [b, c] pos) (dChain f f' ta tb tc) := PE.weak (pe_chain ho ho' ha hb hc hm) fun σ H Q h => lift_chain h
theorem dt_chain {op op' : CmpOp} (ho : DO X (compareOp op) f) (ho' : DO X (compareOp op') f') (ha : DE X a ta) (hb : DE X b tb) (hc : DE X c tc)
    (hm : lastMarks [op, op'] [b, c] = false := by with_unfolding_all rfl) : DT X (.Compare a [op, op'] [b, c] pos) (dTest (dChain f f' ta tb tc)) :=
  PT.weak (pt_chain ho ho' ha hb hc hm) fun σ H Q h => by
    obtain ⟨r, G, ρ, P, E, p, q⟩ := lift_test h
    exact lift_chain ⟨r, G, ρ, P, E, p, q⟩
/-- an expression whose value is a bool, as a test -/
theorem dt_val {t : PT0} (h : DE X a t) (he : ∀ whole, isTrue a X.env whole = (do let v ← whole; standAt a.pos; holding [v] (truthy v)) := by intro _; rfl) : DT X a (dTest t) := PT.weak (pt_val h he) fun σ H Q h => lift_test h
/-! ### and, or, not, if -/
variable {tA tB : PTT} {rest : List Expr}
def DW (X : Cx) (e : Expr) (t : PTT) : Prop := PW X e (liftT X.K t)
def dAnd (t u : PTT) : PTT := fun ρ P => t ρ fun k => if k = true then u ρ P else P false
def dOr (t u : PTT) : PTT := fun ρ P => t ρ fun k => if k = true then P true else u ρ P
def dNot (t : PTT) : PTT := fun ρ P => t ρ fun k => P (!k)
theorem PW.weak {X : Cx} {e : Expr} {t u : TT} (h : PW X e t) (w : ∀ σ H Q, u σ H Q → t σ H Q) : PW X e u := ⟨fun wh pins s σ H Q I q => h.run wh pins s σ H Q I (w σ H Q q)⟩
theorem dw_and1 (h : DT X a tA) : DW X (.BoolOp .And [a] pos) tA := pw_and1 h
theorem dw_or1 (h : DT X a tA) : DW X (.BoolOp .Or [a] pos) tA := pw_or1 h
theorem dw_and (ha : DT X a tA) (hb : DW X (.BoolOp .And (b :: rest) pos) tB) : DW X (.BoolOp .And (a :: b :: rest) pos) (dAnd tA tB) := PW.weak (pw_and ha hb) fun σ H Q ⟨r, G, ρ, P, E, p, q⟩ =>
  ⟨r, G, ρ, _, E, p, fun k G1 H1 p1 W1 => by
    cases k with
    | false => exact q _ _ _ p1 W1
    | true => exact ⟨r, G1, ρ, P, E.grow W1, p1, fun k G2 H2 p2 W2 => q k G2 H2 p2 (W1.trans W2)⟩⟩
theorem dw_or (ha : DT X a tA) (hb : DW X (.BoolOp .Or (b :: rest) pos) tB) : DW X (.BoolOp .Or (a :: b :: rest) pos) (dOr tA tB) := PW.weak (pw_or ha hb) fun σ H Q ⟨r, G, ρ, P, E, p, q⟩ =>
  ⟨r, G, ρ, _, E, p, fun k G1 H1 p1 W1 => by
    cases k with
    | true => exact q _ _ _ p1 W1
    | false => exact ⟨r, G1, ρ, P, E.grow W1, p1, fun k G2 H2 p2 W2 => q k G2 H2 p2 (W1.trans W2)⟩⟩
theorem dw_pt (h : DW X a tA) : DT X a tA := PW.pt h
theorem dt_not (h : DT X a tA) : DT X (.UnaryOp .Not a pos) (dNot tA) := PT.weak (pt_not h) fun σ H Q ⟨r, G, ρ, P, E, p, q⟩ => ⟨r, G, ρ, _, E, p, fun k G1 H1 p1 W1 => q _ _ _ p1 W1⟩
/-- as values (bools) -/
def dAndV (ta tb : PT0) : PT0 := fun ρ P => ta ρ fun x => ∃ k, x = .bool k ∧ if k = true then tb ρ P else P (.bool false)
def dOrV (ta tb : PT0) : PT0 := fun ρ P => ta ρ fun x => ∃ k, x = .bool k ∧ if k = true then P (.bool true) else tb ρ P
def dNotV (ta : PT0) : PT0 := fun ρ P => ta ρ fun x => ∃ k, x = .bool k ∧ P (.bool (!k))
theorem de_one {op} (h : DE X a ta) : DE X (.BoolOp op [a] pos) ta := pe_one h
theorem de_and (ha : DE X a ta) (hb : DE X (.BoolOp .And (b :: rest) pos) tb) : DE X (.BoolOp .And (a :: b :: rest) pos) (dAndV ta tb) := PE.weak (pe_and ha hb) fun σ H Q ⟨r, G, ρ, P, E, p, q⟩ =>
  ⟨r, G, ρ, _, E, p, fun v x G1 H1 ⟨k, e, p1⟩ W1 R1 => by
    subst e
    cases R1
    refine ⟨k, rfl, ?_⟩
    cases k with
    | false => exact q _ _ _ _ p1 W1 (.bl false)
    | true => exact ⟨r, G1, ρ, P, E.grow W1, p1, fun k x G2 H2 p2 W2 R2 => q k x G2 H2 p2 (W1.trans W2) R2⟩⟩
theorem de_or (ha : DE X a ta) (hb : DE X (.BoolOp .Or (b :: rest) pos) tb) : DE X (.BoolOp .Or (a :: b :: rest) pos) (dOrV ta tb) := PE.weak (pe_or ha hb) fun σ H Q ⟨r, G, ρ, P, E, p, q⟩ =>
  ⟨r, G, ρ, _, E, p, fun v x G1 H1 ⟨k, e, p1⟩ W1 R1 => by
    subst e
    cases R1
    refine ⟨k, rfl, ?_⟩
    cases k with
    | true => exact q _ _ _ _ p1 W1 (.bl true)
    | false => exact ⟨r, G1, ρ, P, E.grow W1, p1, fun k x G2 H2 p2 W2 R2 => q k x G2 H2 p2 (W1.trans W2) R2⟩⟩
theorem de_not (ha : DE X a ta) : DE X (.UnaryOp .Not a pos) (dNotV ta) := PE.weak (pe_not ha) fun σ H Q ⟨r, G, ρ, P, E, p, q⟩ =>
  ⟨r, G, ρ, _, E, p, fun v x G1 H1 ⟨k, e, p1⟩ W1 R1 => by
    subst e
    cases R1
    exact ⟨k, rfl, q _ _ _ _ p1 W1 (.bl _)⟩⟩
/-- not of a test, as a value -/
def dIf (t : PTT) (ta tb : PT0) : PT0 := fun ρ P => t ρ fun k => if k = true then ta ρ P else tb ρ P
theorem de_if (hc : DT X c tA) (ha : DE X a ta) (hb : DE X b tb) : DE X (.IfExp c a b pos) (dIf tA ta tb) := PE.weak (pe_ifExp hc ha hb) fun σ H Q ⟨r, G, ρ, P, E, p, q⟩ =>
  ⟨r, G, ρ, _, E, p, fun k G1 H1 p1 W1 => by
    cases k with
    | true => exact ⟨r, G1, ρ, P, E.grow W1, p1, fun k x G2 H2 p2 W2 R2 => q k x G2 H2 p2 (W1.trans W2) R2⟩
    | false => exact ⟨r, G1, ρ, P, E.grow W1, p1, fun k x G2 H2 p2 W2 R2 => q k x G2 H2 p2 (W1.trans W2) R2⟩⟩

/-! ### the operators -/
def fAdd : F2 := fun x y P => match x, y with
  | .int i, .int j => P (.int (i + j))
  | .str i, .str j => i.length + j.length ≤ sizeLine ∧ P (.str (i ++ j))
  | .list i, .list j => i.length + j.length ≤ sizeLine ∧ P (.list (i ++ j))
  | .tuple i, .tuple j => i.length + j.length ≤ sizeLine ∧ P (.tuple (i ++ j))
  | _, _ => False
theorem Reps.nil_iff {K : Fg} {G : Hp} {xs : List V} {ds : List Dt} (r : Reps K G xs ds) : xs = [] ↔ ds = [] := by
  cases r <;> simp
theorem do_add : DO X (binaryOp .Add) fAdd := by
  intro pins s σ H x y v u Q I rx ry ⟨r, G, d, e, P, S, hd, he, p, q⟩
  cases d <;> cases e <;> try exact p.elim
  · cases hd; cases he
    exact op_add pins s σ H _ _ v u Q I rx ry ⟨_, _, rfl, rfl, q _ _ G H p S.grow (.int _)⟩
  · cases hd; cases he
    exact op_add_str pins s σ H _ _ v u Q I rx ry ⟨_, _, rfl, rfl, p.1, q _ _ G H p.2 S.grow (.str _)⟩
  · cases hd with
    | lst e1 r1 =>
      cases he with
      | lst e2 r2 =>
        refine op_cat pins s σ H _ _ v u Q I rx ry ⟨_, _, _, _, rfl, rfl, S.gh _ _ e1, S.gh _ _ e2, by rw [r1.length, r2.length]; exact p.1, fun c hc => ?_⟩
        refine q _ _ _ _ p.2 (S.lay hc) ?_
        exact (.lst upd_same ((r1.append r2).mono (S.lay hc).g))
  · cases hd with
    | tup e1 r1 =>
      cases he with
      | tup e2 r2 =>
        refine op_catA pins s σ H _ _ v u Q I rx ry ⟨_, _, _, _, rfl, rfl, same_seqP S.gh e1, same_seqP S.gh e2, by rw [r1.length, r2.length]; exact p.1, fun z => ?_, fun z1 z2 => ?_, fun _ _ c hc => ?_⟩
        · subst z
          cases r1
          exact q _ _ G H p.2 S.grow (.tup e2 r2)
        · subst z2
          cases r2
          refine q _ _ G H p.2 S.grow ?_
          rw [List.append_nil]
          exact .tup e1 r1
        · refine q _ _ _ _ p.2 (S.lay hc) ?_
          exact (.tup upd_same ((r1.append r2).mono (S.lay hc).g))
def fInt (C : Int → Int → Prop) (g : Int → Int → Dt) : F2 := fun x y P => match x, y with
  | .int i, .int j => C i j ∧ P (g i j)
  | _, _ => False
theorem do_int {h : Value → Value → Sem Value} {C : Int → Int → Prop} {g : Int → Int → Dt} {gv : Int → Int → V} (ho : OpR X h (rI C gv)) (hg : ∀ i j G, Rep X.K G (gv i j) (g i j)) : DO X h (fInt C g) := by
  intro pins s σ H x y v u Q I rx ry ⟨r, G, d, e, P, S, hd, he, p, q⟩
  cases d <;> cases e <;> try exact p.elim
  cases hd; cases he
  exact ho pins s σ H _ _ v u Q I rx ry ⟨_, _, rfl, rfl, p.1, q _ _ G H p.2 S.grow (hg _ _ _)⟩
def fIn0 (g : Int → Int → Dt) : F2 := fun x y P => match x, y with
  | .int i, .int j => P (g i j)
  | _, _ => False
theorem do_in0 {h : Value → Value → Sem Value} {g : Int → Int → Dt} {gv : Int → Int → V} (ho : OpR X h (rI0 gv)) (hg : ∀ i j G, Rep X.K G (gv i j) (g i j)) : DO X h (fIn0 g) := by
  intro pins s σ H x y v u Q I rx ry ⟨r, G, d, e, P, S, hd, he, p, q⟩
  cases d <;> cases e <;> try exact p.elim
  cases hd; cases he
  exact ho pins s σ H _ _ v u Q I rx ry ⟨_, _, rfl, rfl, q _ _ G H p S.grow (hg _ _ _)⟩
abbrev fSub : F2 := fIn0 fun i j => .int (i - j)
theorem do_sub : DO X (binaryOp .Sub) fSub := do_in0 op_sub fun _ _ _ => .int _
def fMul : F2 := fun x y P => match x, y with
  | .int i, .int j => CMul i j ∧ P (.int (i * j))
  | .list i, .int j => -(2 ^ 63) ≤ j ∧ j < 2 ^ 63 ∧ i.length * j.toNat ≤ sizeLine ∧ P (.list (List.replicate j.toNat i).flatten)
  | .tuple i, .int j => i ≠ [] ∧ 2 ≤ j ∧ j ≤ 1000 ∧ i.length ≤ 1000 ∧ P (.tuple (List.replicate j.toNat i).flatten)
  | _, _ => False
theorem do_mul : DO X (binaryOp .Mult) fMul := by
  intro pins s σ H x y v u Q I rx ry ⟨r, G, d, e, P, S, hd, he, p, q⟩
  cases d <;> cases e <;> try exact p.elim
  · cases hd; cases he
    exact op_mul pins s σ H _ _ v u Q I rx ry ⟨_, _, rfl, rfl, p.1, q _ _ G H p.2 S.grow (.int _)⟩
  · cases hd with
    | lst e1 r1 =>
      cases he
      refine op_rep pins s σ H _ _ v u Q I rx ry ⟨_, _, _, rfl, rfl, S.gh _ _ e1, p.1, p.2.1, by rw [r1.length]; exact p.2.2.1, fun c hc => ?_⟩
      refine q _ _ _ _ p.2.2.2 (S.lay hc) ?_
      exact (.lst upd_same ((r1.rep _).mono (S.lay hc).g))
  · cases hd with
    | tup e1 r1 =>
      cases he
      refine op_repT pins s σ H _ _ v u Q I rx ry ⟨_, _, _, rfl, rfl, same_seqP S.gh e1, fun z => p.1 (r1.nil_iff.mp z), p.2.1, p.2.2.1, by rw [r1.length]; exact p.2.2.2.1, fun c hc => ?_⟩
      refine q _ _ _ _ p.2.2.2.2 (S.lay hc) ?_
      exact (.tup upd_same ((r1.rep _).mono (S.lay hc).g))
abbrev fFdiv : F2 := fInt CDiv fun i j => .int (i / j)
theorem do_fdiv : DO X (binaryOp .FloorDiv) fFdiv := do_int op_fdiv fun _ _ _ => .int _
abbrev fMod : F2 := fInt (fun _ j => 0 < j) fun i j => .int (i % j)
theorem do_mod : DO X (binaryOp .Mod) fMod := do_int op_mod fun _ _ _ => .int _
abbrev fPow : F2 := fInt CPow fun i j => .int (i ^ j.toNat)
theorem do_pow : DO X (binaryOp .Pow) fPow := do_int op_pow fun _ _ _ => .int _
/-- an order of ints or texts -/
def fOrd (g : Int → Int → Bool) (h : List Nat → List Nat → Bool) : F2 := fun x y P => match x, y with
  | .int i, .int j => P (.bool (g i j))
  | .str i, .str j => P (.bool (h i.cps.toList j.cps.toList))
  | _, _ => False
theorem do_ord {k : Value → Value → Sem Value} {g : Int → Int → Bool} {h : List Nat → List Nat → Bool} (h1 : OpR X k (rI0 fun i j => .bl (g i j)))
    (h2 : OpR X k (fun x y H Q => ∃ i j, x = .str i ∧ y = .str j ∧ Q (.bl (h i.cps.toList j.cps.toList)) H)) : DO X k (fOrd g h) := by
  intro pins s σ H x y v u Q I rx ry ⟨r, G, d, e, P, S, hd, he, p, q⟩
  cases d <;> cases e <;> try exact p.elim
  · cases hd; cases he
    exact h1 pins s σ H _ _ v u Q I rx ry ⟨_, _, rfl, rfl, q _ _ G H p S.grow (.bl _)⟩
  · cases hd; cases he
    exact h2 pins s σ H _ _ v u Q I rx ry ⟨_, _, rfl, rfl, q _ _ G H p S.grow (.bl _)⟩
abbrev fLt : F2 := fOrd (fun i j => decide (i < j)) fun i j => decide (i < j)
abbrev fLe : F2 := fOrd (fun i j => decide (i ≤ j)) fun i j => !decide (j < i)
abbrev fGt : F2 := fOrd (fun i j => decide (j < i)) fun i j => decide (j < i)
abbrev fGe : F2 := fOrd (fun i j => decide (j ≤ i)) fun i j => !decide (i < j)
theorem do_lt : DO X (compareOp .Lt) fLt := do_ord op_lt op_lt_str
theorem do_le : DO X (compareOp .LtE) fLe := do_ord op_le op_le_str
theorem do_gt : DO X (compareOp .Gt) fGt := do_ord op_gt op_gt_str
theorem do_ge : DO X (compareOp .GtE) fGe := do_ord op_ge op_ge_str
/-! equality -/
mutual
def noDic : Dt → Bool
  | .dict _ => false
  | .list xs => noDics xs
  | .tuple xs => noDics xs
  | _ => true
def noDics : List Dt → Bool
  | [] => true
  | x :: xs => noDic x && noDics xs
end
mutual
theorem dp_of {K : Fg} {G H : Hp} (g : Same G H) : ∀ (d : Dt) (v : V), Rep K G v d → SeqAt.shaped d = true ∨ d.canLay0 = true → Dp K H v d
  | .none, _, h, _ => by cases h; exact .non
  | .bool _, _, h, _ => by cases h; exact .bl _
  | .int _, _, h, _ => by cases h; exact .int _
  | .str _, _, h, _ => by cases h; exact .str _
  | .list ds, _, h, n => by
    cases h with
    | lst e r => exact .lst (SqL.of (g _ _ e)) (dps_of g ds _ r (n.elim (fun z => by simpa [PyData.canLay0] using SeqAt.canLay_of_shaped z) fun z => by simpa [PyData.canLay0] using z))
  | .tuple ds, _, h, n => by
    cases h with
    | tup e r => exact .tup (same_seqP g e) (dps_of g ds _ r (n.elim (fun z => by simpa [PyData.canLay0] using SeqAt.canLay_of_shaped z) fun z => by simpa [PyData.canLay0] using z))
  | .dict _, _, _, n => by
    rcases n with n | n
    · have := SeqAt.canLay_of_shaped n
      simp [PyData.canLay0] at this
    · simp [PyData.canLay0] at n
theorem dps_of {K : Fg} {G H : Hp} (g : Same G H) : ∀ (ds : List Dt) (vs : List V), Reps K G vs ds → PyData.canLayAll0 ds = true → DpAll K H vs ds
  | [], _, h, _ => by cases h; exact .nil
  | d :: ds, _, h, n => by
    cases h with
    | cons a b =>
      have n' : d.canLay0 = true ∧ PyData.canLayAll0 ds = true := by simpa [PyData.canLayAll0] using n
      exact .cons (dp_of g d _ a (.inr n'.1)) (dps_of g ds _ b n'.2)
end
def eqOk (x y : Dt) : Bool := match x, y with
  | .str _, .str _ => true
  | .str _, .none => true
  | .none, .str _ => true
  | _, _ => SeqAt.shaped x && SeqAt.shaped y
def fEq : F2 := fun x y P => eqOk x y = true ∧ P (.bool (PyData.eqv x y))
def fNe : F2 := fun x y P => eqOk x y = true ∧ P (.bool (!PyData.eqv x y))
theorem eqOk_shaped {x y : Dt} (h : eqOk x y = true) : ((∃ a b, x = .str a ∧ y = .str b) ∨ (∃ a, x = .str a ∧ y = .none) ∨ (∃ b, x = .none ∧ y = .str b)) ∨ (SeqAt.shaped x = true ∧ SeqAt.shaped y = true) := by
  cases x <;> cases y <;> simp_all [eqOk]
theorem do_eq (hu : X.A.units + 64 < cLine) : DO X (compareOp .Eq) fEq := by
  intro pins s σ H x y v u Q I rx ry ⟨r, G, d, e, P, S, hd, he, p, q⟩
  rcases eqOk_shaped p.1 with (⟨a, b, rfl, rfl⟩ | ⟨a, rfl, rfl⟩ | ⟨a, rfl, rfl⟩) | ⟨s1, s2⟩
  · cases hd; cases he
    refine op_eq pins s σ H _ _ v u Q I rx ry ⟨rfl, q _ _ G H p.2 S.grow ?_⟩
    rw [show PyData.eqv (.str a) (.str b) = decide (V.str a = V.str b) by rw [PyData.eqv, dec_str]]
    exact .bl _
  · cases hd; cases he
    refine op_eq pins s σ H _ _ v u Q I rx ry ⟨rfl, q _ _ G H p.2 S.grow ?_⟩
    rw [show PyData.eqv (.str a) .none = decide (V.str a = V.non) by simp [PyData.eqv]]
    exact .bl _
  · cases hd; cases he
    refine op_eq pins s σ H _ _ v u Q I rx ry ⟨rfl, q _ _ G H p.2 S.grow ?_⟩
    rw [show PyData.eqv .none (.str a) = decide (V.non = V.str a) by simp [PyData.eqv]]
    exact .bl _
  · exact op_eqD hu pins s σ H _ _ v u Q I rx ry ⟨d, e, dp_of S.gh d _ hd (.inl s1), dp_of S.gh e _ he (.inl s2), s1, s2, q _ _ G H p.2 S.grow (.bl _)⟩
theorem do_ne (hu : X.A.units + 64 < cLine) : DO X (compareOp .NotEq) fNe := by
  intro pins s σ H x y v u Q I rx ry ⟨r, G, d, e, P, S, hd, he, p, q⟩
  rcases eqOk_shaped p.1 with (⟨a, b, rfl, rfl⟩ | ⟨a, rfl, rfl⟩ | ⟨a, rfl, rfl⟩) | ⟨s1, s2⟩
  · cases hd; cases he
    refine op_ne pins s σ H _ _ v u Q I rx ry ⟨rfl, q _ _ G H p.2 S.grow ?_⟩
    rw [show PyData.eqv (.str a) (.str b) = decide (V.str a = V.str b) by rw [PyData.eqv, dec_str]]
    exact .bl _
  · cases hd; cases he
    refine op_ne pins s σ H _ _ v u Q I rx ry ⟨rfl, q _ _ G H p.2 S.grow ?_⟩
    rw [show PyData.eqv (.str a) .none = decide (V.str a = V.non) by simp [PyData.eqv]]
    exact .bl _
  · cases hd; cases he
    refine op_ne pins s σ H _ _ v u Q I rx ry ⟨rfl, q _ _ G H p.2 S.grow ?_⟩
    rw [show PyData.eqv .none (.str a) = decide (V.non = V.str a) by simp [PyData.eqv]]
    exact .bl _
  · exact op_neD hu pins s σ H _ _ v u Q I rx ry ⟨d, e, dp_of S.gh d _ hd (.inl s1), dp_of S.gh e _ he (.inl s2), s1, s2, q _ _ G H p.2 S.grow (.bl _)⟩
/-- is None, is True -/
def isN : Dt → Bool
  | .none => true
  | _ => false
def fIs : F2 := fun x y P => match y with
  | .none => P (.bool (isN x))
  | .bool b => match x with
    | .bool a => P (.bool (decide (a = b)))
    | _ => False
  | _ => False
def fIsNot : F2 := fun x y P => match y with
  | .none => P (.bool (!isN x))
  | .bool b => match x with
    | .bool a => P (.bool (!decide (a = b)))
    | _ => False
  | _ => False
theorem isN_rep {K : Fg} {G : Hp} {v : V} {d : Dt} (h : Rep K G v d) : isN d = decide (v = .non) := by
  cases h <;> simp [isN]
theorem do_is : DO X (compareOp .Is) fIs := by
  intro pins s σ H x y v u Q I rx ry ⟨r, G, d, e, P, S, hd, he, p, q⟩
  cases e <;> try exact p.elim
  · cases he
    refine op_isN pins s σ H _ _ v u Q I rx ry ⟨rfl, q _ _ G H p S.grow ?_⟩
    rw [isN_rep hd]
    exact .bl _
  · cases d <;> try exact p.elim
    cases he; cases hd
    exact op_isBl pins s σ H _ _ v u Q I rx ry ⟨_, _, rfl, rfl, q _ _ G H p S.grow (.bl _)⟩
theorem do_isnot : DO X (compareOp .IsNot) fIsNot := by
  intro pins s σ H x y v u Q I rx ry ⟨r, G, d, e, P, S, hd, he, p, q⟩
  cases e <;> try exact p.elim
  · cases he
    refine op_notN pins s σ H _ _ v u Q I rx ry ⟨rfl, q _ _ G H p S.grow ?_⟩
    rw [isN_rep hd]
    exact .bl _
  · cases d <;> try exact p.elim
    cases he; cases hd
    exact op_notBl pins s σ H _ _ v u Q I rx ry ⟨_, _, rfl, rfl, q _ _ G H p S.grow (.bl _)⟩
def fNeg : F1 := fun x P => match x with
  | .int i => P (.int (-i))
  | _ => False
theorem de_neg (ha : DE X a ta) : DE X (.UnaryOp .USub a pos) (dUn fNeg ta) := PE.weak (pe_un un_neg ha) fun σ H Q ⟨r, G, ρ, P, E, p, q⟩ => ⟨r, G, ρ, _, E, p, fun v x G1 H1 p1 W1 R1 => by
  cases x <;> try exact p1.elim
  cases R1
  exact ⟨_, rfl, q _ _ _ _ p1 W1 (.int _)⟩⟩

/-! ### argument lists, displays -/
def dNil : PTA := fun _ P => P []
def dCons (t : PT0) (u : PTA) : PTA := fun ρ P => t ρ fun x => u ρ fun xs => P (x :: xs)
theorem da_nil : DA X [] dNil := PA.weak pa_nil fun σ H Q ⟨r, G, ρ, P, E, p, q⟩ => q [] [] G H p E.st.grow .nil
theorem da_cons {es : List Expr} {t : PTA} (ha : DE X a ta) (hr : DA X es t) (hs : starEach (a :: es) X.env = (false, eval a X.env) :: starEach es X.env := by rfl) : DA X (a :: es) (dCons ta t) :=
  PA.weak (pa_cons ha hr hs) fun σ H Q ⟨r, G, ρ, P, E, p, q⟩ => ⟨r, G, ρ, _, E, p, fun v x G1 H1 p1 W1 R1 => ⟨r, G1, ρ, _, E.grow W1, p1, fun vs xs G2 H2 p2 W2 R2 => q (v :: vs) (x :: xs) G2 H2 p2 (W1.trans W2) (.cons (R1.mono W2.g) R2)⟩⟩
def dTup (t : PTA) : PT0 := fun ρ P => t ρ fun xs => xs.length ≤ sizeLine ∧ P (.tuple xs)
def dLst (t : PTA) : PT0 := fun ρ P => t ρ fun xs => xs.length ≤ sizeLine ∧ P (.list xs)
theorem de_tup {es : List Expr} {t : PTA} {x1} (h : DA X es t) : DE X (.Tuple es x1 pos) (dTup t) := PE.weak (pe_tup h) fun σ H Q ⟨r, G, ρ, P, E, p, q⟩ => ⟨r, G, ρ, _, E, p, fun vs xs G1 H1 p1 W1 R1 => by
  refine ⟨by rw [R1.length]; exact p1.1, fun c hc => ?_⟩
  have W := (W1.start E.st).lay (o := .tup vs) hc
  exact q _ _ _ _ p1.2 (W1.trans W) (.tup upd_same (R1.mono W.g))⟩
theorem de_lst {es : List Expr} {t : PTA} (h : DA X es t) : DE X (.List es pos) (dLst t) := PE.weak (pe_lst h) fun σ H Q ⟨r, G, ρ, P, E, p, q⟩ => ⟨r, G, ρ, _, E, p, fun vs xs G1 H1 p1 W1 R1 => by
  refine ⟨by rw [R1.length]; exact p1.1, fun c hc => ?_⟩
  have W := (W1.start E.st).lay (o := .lst vs) hc
  exact q _ _ _ _ p1.2 (W1.trans W) (.lst upd_same (R1.mono W.g))⟩

/-! ### subscripts, slices -/
def fIx : F2 := fun x y P => match x, y with
  | .list xs, .int k => ∃ v, atI xs k = some v ∧ P v
  | .tuple xs, .int k => ∃ v, atI xs k = some v ∧ P v
  | .str z, .int k => z.length ≤ sizeLine ∧ ∃ c, atI z.cps.toList k = some c ∧ P (.str ⟨#[c]⟩)
  | _, _ => False
theorem atI_reps {K : Fg} {G : Hp} {vs : List V} {xs : List Dt} (R : Reps K G vs xs) {k : Int} {d : Dt} (h : atI xs k = some d) : ∃ v, atI vs k = some v ∧ Rep K G v d := by
  unfold atI at h ⊢
  rw [R.length]
  cases e : ixN xs.length k with
  | none => rw [e] at h; cases h
  | some j =>
    rw [e] at h
    exact R.get h
theorem di_ix : IxR X (liftO X.K fIx) := by
  intro va sl pins s σ H x y v u Q I rx ry ⟨r, G, d, e, P, S, hd, he, p, q⟩ hs
  cases d <;> cases e <;> try exact p.elim
  · cases hd; cases he
    obtain ⟨hz, c, h1, p⟩ := p
    exact ix_str va sl pins s σ H _ _ v u Q I rx ry ⟨_, _, c, rfl, rfl, hz, h1, q _ _ G H p S.grow (.str _)⟩ hs
  · cases hd with
    | lst e1 r1 =>
      cases he
      obtain ⟨w, h1, p⟩ := p
      obtain ⟨w', h2, R⟩ := atI_reps r1 h1
      exact ix_list va sl pins s σ H _ _ v u Q I rx ry ⟨_, _, _, w', rfl, rfl, SqL.of (S.gh _ _ e1), h2, q _ _ G H p S.grow R⟩ hs
  · cases hd with
    | tup e1 r1 =>
      cases he
      obtain ⟨w, h1, p⟩ := p
      obtain ⟨w', h2, R⟩ := atI_reps r1 h1
      exact ix_tup va sl pins s σ H _ _ v u Q I rx ry ⟨_, _, _, w', rfl, rfl, same_seqP S.gh e1, h2, q _ _ G H p S.grow R⟩ hs
theorem de_ix (ha : DE X a ta) (hb : DE X b tb) (hs : PlainIx b := by exact fun _ _ => rfl) : DE X (.Subscript a b pos) (dBin fIx ta tb) := PE.weak (pe_ix di_ix ha hb hs) fun σ H Q h => lift_bin h
/-- .. of a list of one's own -/
def dIxO (i : Nat) (tb : PT0) : PT0 := fun ρ P => ∃ xs, ρ[i]? = some (.own (.list xs)) ∧ tb ρ fun y => ∃ k, y = .int k ∧ ∃ v, atI xs k = some v ∧ P v
theorem de_ixO (i : Nat) {x : Str} {p0 : Pos} (hb : DE X b tb) (hs : PlainIx b := by exact fun _ _ => rfl) (hN : X.N[i]? = some x := by rfl) (hv : Vis X.env.scope x := by first | exact Or.inl rfl | exact Or.inr (Or.inl rfl) | exact Or.inr (Or.inr rfl)) (hd : (x == ("__debug__" : Str)) = false := by decide)
    (hcd : (x == ("__classdict__" : Str)) = false := by decide) : DE X (.Subscript (.Name x p0) b pos) (dIxO i tb) := PE.weak (pe_ix ix_list (pe_var hN hv hd hcd) hb hs) fun σ H Q ⟨r, G, ρ, P, E, ⟨xs, e, p⟩, q⟩ => by
  obtain ⟨a, h1, h2, h3, h4⟩ := E.getO e
  refine ⟨.ref a, h1, r, G, ρ, _, E, p, fun v y G1 H1 ⟨k, ek, w, h5, p1⟩ W1 R1 => ?_⟩
  subst ek
  cases R1
  obtain ⟨a', h1', h2', h3', h4'⟩ := (E.grow W1).getO e
  rw [h1] at h1'
  cases h1'
  cases h4' with
  | lst e5 r5 =>
    obtain ⟨w', h6, R⟩ := atI_reps r5 h5
    exact ⟨a, _, k, w', rfl, rfl, SqL.of e5, h6, q _ _ _ _ p1 W1 R⟩
/-- parts of a slice -/
abbrev PTO := List PV → (Option Int → Prop) → Prop
def liftP (K : Fg) (t : PTO) : TO := fun σ H Q => ∃ (r : Option Addr) (G : Hp) (ρ : List PV) (P : Option Int → Prop), EnvR K r G H σ ρ ∧ t ρ P ∧ ∀ o G' H', P o → Grow K r G H G' H' → Q o H'
def DP (X : Cx) (e : Option Expr) (t : PTO) : Prop := PO X e (liftP X.K t)
def dNoPart : PTO := fun _ P => P none
def dPart (t : PT0) : PTO := fun ρ P => t ρ fun x => ∃ i, x = .int i ∧ P (some i)
theorem PO.weak {X : Cx} {e : Option Expr} {t u : TO} (h : PO X e t) (w : ∀ σ H Q, u σ H Q → t σ H Q) : PO X e u := ⟨fun pins s σ H Q I q => h.run pins s σ H Q I (w σ H Q q)⟩
theorem dp_none : DP X none dNoPart := PO.weak po_none fun σ H Q ⟨r, G, ρ, P, E, p, q⟩ => q none G H p E.st.grow
theorem dp_some (h : DE X a ta) : DP X (some a) (dPart ta) := PO.weak (po_some h) fun σ H Q ⟨r, G, ρ, P, E, p, q⟩ => ⟨r, G, ρ, _, E, p, fun v x G1 H1 ⟨i, e, p1⟩ W1 R1 => by
  subst e
  cases R1
  exact ⟨i, rfl, q (some i) G1 H1 p1 W1⟩⟩
def cutD (xs : List Dt) (lo hi : Option Int) : List Dt := (xs.drop (HT.sIx xs.length 0 lo)).take (HT.sIx xs.length xs.length hi - HT.sIx xs.length 0 lo)
def fSl : Dt → Option Int → Option Int → (Dt → Prop) → Prop := fun x lo hi P => match x with
  | .list xs => P (.list (cutD xs lo hi))
  | .tuple xs => P (.tuple (cutD xs lo hi))
  | .str z => z.length ≤ sizeLine ∧ P (.str (cutS z lo hi))
  | _ => False
theorem Reps.cut {K : Fg} {G : Hp} {vs : List V} {xs : List Dt} (R : Reps K G vs xs) (lo hi : Option Int) : Reps K G (cutV vs lo hi) (cutD xs lo hi) := by
  unfold cutV cutD
  rw [R.length]
  exact (R.drop _).take _
theorem ds_any : SlR X (fun x lo hi H Q => ∃ (r : Option Addr) (G : Hp) (d : Dt) (P : Dt → Prop), Start X.K r G H ∧ Rep X.K G x d ∧ fSl d lo hi P ∧ ∀ v z G' H', P z → Grow X.K r G H G' H' → Rep X.K G' v z → Q v H') := by
  intro pins s σ H x v vl vu lo hi sl Q I rx hs pl pu ⟨r, G, d, P, S, hd, p, q⟩
  cases d <;> try exact p.elim
  · cases hd
    exact sl_str pins s σ H _ v vl vu lo hi sl Q I rx hs pl pu ⟨_, rfl, p.1, q _ _ G H p.2 S.grow (.str _)⟩
  · cases hd with
    | lst e1 r1 =>
      refine sl_list pins s σ H _ v vl vu lo hi sl Q I rx hs pl pu ⟨_, _, rfl, SqL.of (S.gh _ _ e1), fun c hc => ?_⟩
      refine q _ _ _ _ p (S.lay hc) ?_
      exact (.lst upd_same ((r1.cut lo hi).mono (S.lay hc).g))
  · cases hd with
    | @tup a vs xs e1 r1 =>
      refine sl_tupA pins s σ H _ v vl vu lo hi sl Q I rx hs pl pu ⟨_, _, rfl, same_seqP S.gh e1, fun hw => ?_, fun _ c hc => ?_⟩
      · refine q _ _ G H p S.grow ?_
        have e : ∀ ds : List Dt, vs.length = ds.length → cutD ds lo hi = ds := fun ds hl => by
          rw [hl] at hw
          unfold cutD
          rw [hw.1, hw.2, List.drop_zero, Nat.sub_zero, List.take_length]
        rw [e _ r1.length]
        exact .tup e1 r1
      · refine q _ _ _ _ p (S.lay hc) ?_
        exact (.tup upd_same ((r1.cut lo hi).mono (S.lay hc).g))
def dSl (te : PT0) (tl th : PTO) : PT0 := fun ρ P => te ρ fun x => tl ρ fun lo => th ρ fun hi => fSl x lo hi P
theorem de_sl {lo hi : Option Expr} {p2 : Pos} {tl th : PTO} (he : DE X a ta) (hl : DP X lo tl) (hu : DP X hi th) : DE X (.Subscript a (.Slice lo hi none p2) pos) (dSl ta tl th) := PE.weak (pe_slice ds_any he hl hu) fun σ H Q ⟨r, G, ρ, P, E, p, q⟩ =>
  ⟨r, G, ρ, _, E, p, fun v x G1 H1 p1 W1 R1 => ⟨r, G1, ρ, _, E.grow W1, p1, fun l G2 H2 p2 W2 => ⟨r, G2, ρ, _, E.grow (W1.trans W2), p2, fun u G3 H3 p3 W3 => by
    have W := (W1.trans W2).trans W3
    exact ⟨r, G3, x, P, W.start E.st, R1.mono (W2.g.trans W3.g), p3, fun v z G' H' p4 W4 R4 => q v z G' H' p4 (W.trans W4) R4⟩⟩⟩⟩
end
end PD
namespace PD
open PySem PySem.Spec PyProof.Rows L2

/-! ### built-in functions by what their values say -/
abbrev FC := List Dt → (Dt → Prop) → Prop
def liftC (K : Fg) (f : FC) : List V → Hp → VK → Prop := fun vs H Q => ∃ (r : Option Addr) (G : Hp) (ds : List Dt) (P : Dt → Prop), Start K r G H ∧ Reps K G vs ds ∧ f ds P ∧ ∀ v z G' H', P z → Grow K r G H G' H' → Rep K G' v z → Q v H'
def DC (X : Cx) (g : Value) (f : FC) : Prop := CallR X g (liftC X.K f)
def dApp (f : FC) (t : PTA) : PT0 := fun ρ P => t ρ fun xs => f xs P
section
variable {X : Cx} {pos p : Pos} {a b c : Expr} {ta tb tc : PT0} {f : FC} {es : List Expr} {t : PTA} {x : Str}
theorem lift_app {σ : L2.St} {H : Hp} {Q : VK} (h : liftE X.K (dApp f t) σ H Q) : tCB (liftC X.K f) (liftA X.K t) σ H Q := by
  obtain ⟨r, G, ρ, P, E, p, q⟩ := h
  exact ⟨r, G, ρ, _, E, p, fun vs xs G1 H1 p1 W1 R1 => ⟨r, G1, xs, P, W1.start E.st, R1, p1, fun w z G3 H3 p3 W3 R3 => q w z G3 H3 p3 (W1.trans W3) R3⟩⟩
theorem de_callB {id : String} (hc : DC X (.builtin id) f) (hg : Gl X x) (hm : X.mg x = none) (hv : bootBuiltins x = some (.builtin id)) (ha : DA X (a :: es) t) (hn : x ≠ "__name__" := by decide) (hdb : (x == ("__debug__" : Str)) = false := by decide)
    (he : starEach (a :: es) X.env = (false, eval a X.env) :: starEach es X.env := by rfl) (hpl : (backTo pos (starEach es X.env)).any (·.1) = false := by rfl) : DE X (.Call (.Name x p) (a :: es) [] pos) (dApp f t) :=
  PE.weak (pe_callB hc hg hm hv ha hn hdb he hpl) fun σ H Q h => lift_app h
theorem de_callT {T : String} (hc : DC X (.type T) f) (hg : Gl X x) (hm : X.mg x = none) (hv : bootBuiltins x = some (.type T)) (ha : DA X (a :: es) t) (hn : x ≠ "__name__" := by decide) (hdb : (x == ("__debug__" : Str)) = false := by decide)
    (he : starEach (a :: es) X.env = (false, eval a X.env) :: starEach es X.env := by rfl) (hpl : (backTo pos (starEach es X.env)).any (·.1) = false := by rfl) : DE X (.Call (.Name x p) (a :: es) [] pos) (dApp f t) :=
  PE.weak (pe_callTy hc hg hm hv ha hn hdb he hpl) fun σ H Q h => lift_app h
def fLen : FC := fun ds P => match ds with
  | [.str z] => z.length ≤ sizeLine ∧ P (.int z.length)
  | [.list xs] => P (.int xs.length)
  | [.tuple xs] => P (.int xs.length)
  | _ => False
theorem dc_len : DC X (.builtin "len") fLen := by
  intro pins s σ H xs us Q I rv ⟨r, G, ds, P, S, hd, p, q⟩
  cases hd with
  | nil => exact p.elim
  | cons h1 h2 =>
    cases h2 with
    | cons _ _ => cases h1 <;> exact p.elim
    | nil =>
      cases h1 <;> try exact p.elim
      · exact call_len pins s σ H _ us Q I rv ⟨_, _, rfl, ⟨p.1, rfl⟩, q _ _ G H p.2 S.grow (.int _)⟩
      · rename_i e1 r1
        exact call_len pins s σ H _ us Q I rv ⟨_, _, rfl, .inl ⟨_, SqL.of (S.gh _ _ e1), rfl⟩, by rw [r1.length]; exact q _ _ G H p S.grow (.int _)⟩
      · rename_i e1 r1
        exact call_len pins s σ H _ us Q I rv ⟨_, _, rfl, .inr ⟨_, same_seqP S.gh e1, rfl⟩, by rw [r1.length]; exact q _ _ G H p S.grow (.int _)⟩
/-- the lists of dBools, dInts, texts that stand in a datum -/
def dBools : List Dt → Option (List Bool)
  | [] => some []
  | .bool b :: r => (dBools r).map (b :: ·)
  | _ => none
def dInts : List Dt → Option (List Int)
  | [] => some []
  | .int b :: r => (dInts r).map (b :: ·)
  | _ => none
def dStrs : List Dt → Option (List Str)
  | [] => some []
  | .str b :: r => (dStrs r).map (b :: ·)
  | _ => none
theorem bools_eq : ∀ {ds : List Dt} {bs : List Bool}, dBools ds = some bs → ds = bs.map .bool
  | [], _, h => by cases h; rfl
  | d :: ds, bs, h => by
    cases d <;> try cases h
    cases e : dBools ds with
    | none => simp [dBools, e] at h
    | some r =>
      simp [dBools, e] at h
      subst h
      rw [bools_eq e]
      rfl
theorem ints_eq : ∀ {ds : List Dt} {bs : List Int}, dInts ds = some bs → ds = bs.map .int
  | [], _, h => by cases h; rfl
  | d :: ds, bs, h => by
    cases d <;> try cases h
    cases e : dInts ds with
    | none => simp [dInts, e] at h
    | some r =>
      simp [dInts, e] at h
      subst h
      rw [ints_eq e]
      rfl
theorem strs_eq : ∀ {ds : List Dt} {bs : List Str}, dStrs ds = some bs → ds = bs.map .str
  | [], _, h => by cases h; rfl
  | d :: ds, bs, h => by
    cases d <;> try cases h
    cases e : dStrs ds with
    | none => simp [dStrs, e] at h
    | some r =>
      simp [dStrs, e] at h
      subst h
      rw [strs_eq e]
      rfl
theorem bools_map : ∀ bs : List Bool, dBools (bs.map .bool) = some bs
  | [] => rfl
  | b :: bs => by simp [dBools, bools_map bs]
theorem ints_map : ∀ bs : List Int, dInts (bs.map .int) = some bs
  | [] => rfl
  | b :: bs => by simp [dInts, ints_map bs]
theorem strs_map : ∀ bs : List Str, dStrs (bs.map .str) = some bs
  | [] => rfl
  | b :: bs => by simp [dStrs, strs_map bs]
/-- one list in -/
theorem dc_list1 {g : Value} {f : FC} (h : ∀ (ds : List Dt) (P : Dt → Prop), f ds P → ∃ xs, ds = [.list xs])
    (k : ∀ (pins : List (Addr × Obj)) (s : Shared) (σ : L2.St) (H : Hp) (us : List Value) (Q : VK) (r : Option Addr) (G : Hp) (a : Addr) (vs : List V) (xs : List Dt) (P : Dt → Prop), Inv X pins σ H s → Vals [.ref a] us → Start X.K r G H → G a = some (.lst vs) → Reps X.K G vs xs → f [.list xs] P →
      (∀ v z G' H', P z → Grow X.K r G H G' H' → Rep X.K G' v z → Q v H') → wpAny (model X.prog X.w) X.A (call g us) (EP X pins σ Q) X.xe s) : DC X g f := by
  intro pins s σ H xs us Q I rv ⟨r, G, ds, P, S, hd, p, q⟩
  obtain ⟨zs, rfl⟩ := h ds P p
  cases hd with
  | cons h1 h2 =>
    cases h2
    cases h1 with
    | lst e r1 => exact k pins s σ H us Q r G _ _ zs P I rv S e r1 p q
def fAll : FC := fun ds P => match ds with
  | [.list xs] => ∃ bs, dBools xs = some bs ∧ P (.bool (bs.all id))
  | _ => False
def fAny : FC := fun ds P => match ds with
  | [.list xs] => ∃ bs, dBools xs = some bs ∧ P (.bool (bs.any id))
  | _ => False
def fSum : FC := fun ds P => match ds with
  | [.list xs] => ∃ bs, dInts xs = some bs ∧ P (.int bs.sum)
  | _ => False
theorem one_list {f : FC} (h : ∀ ds P, f ds P → match ds with | [.list _] => True | _ => False) : ∀ (ds : List Dt) (P : Dt → Prop), f ds P → ∃ xs, ds = [.list xs] := fun ds P p => by
  have := h ds P p
  split at this
  · exact ⟨_, rfl⟩
  · exact this.elim
theorem dc_all (hc : X.calm = true) : DC X (.builtin "all") fAll := dc_list1 (one_list fun ds P p => by unfold fAll at p; split at p <;> simp_all) fun pins s σ H us Q r G a vs xs P I rv S e r1 ⟨bs, hb, p⟩ q => by
  rw [bools_eq hb] at r1
  have e1 := r1.bls
  subst e1
  exact cr_all hc pins s σ H _ us Q I rv ⟨a, bs, rfl, SqL.of (S.gh _ _ e), q _ _ G H p S.grow (.bl _)⟩
theorem dc_any (hc : X.calm = true) : DC X (.builtin "any") fAny := dc_list1 (one_list fun ds P p => by unfold fAny at p; split at p <;> simp_all) fun pins s σ H us Q r G a vs xs P I rv S e r1 ⟨bs, hb, p⟩ q => by
  rw [bools_eq hb] at r1
  have e1 := r1.bls
  subst e1
  exact cr_any hc pins s σ H _ us Q I rv ⟨a, bs, rfl, SqL.of (S.gh _ _ e), q _ _ G H p S.grow (.bl _)⟩
theorem dc_sum (hc : X.calm = true) : DC X (.builtin "sum") fSum := dc_list1 (one_list fun ds P p => by unfold fSum at p; split at p <;> simp_all) fun pins s σ H us Q r G a vs xs P I rv S e r1 ⟨bs, hb, p⟩ q => by
  rw [ints_eq hb] at r1
  have e1 := r1.ints
  subst e1
  exact cr_sum hc pins s σ H _ us Q I rv ⟨a, bs, rfl, SqL.of (S.gh _ _ e), q _ _ G H p S.grow (.int _)⟩
/-- the least, the greatest of a list or of two -/
def fMin : FC := fun ds P => match ds with
  | [.list xs] => ∃ bs, dInts xs = some bs ∧ 0 < bs.length ∧ ∀ m, m ∈ bs → (∀ y, y ∈ bs → m ≤ y) → P (.int m)
  | [.int i, .int j] => P (.int (if j < i then j else i))
  | _ => False
def fMax : FC := fun ds P => match ds with
  | [.list xs] => ∃ bs, dInts xs = some bs ∧ 0 < bs.length ∧ ∀ m, m ∈ bs → (∀ y, y ∈ bs → y ≤ m) → P (.int m)
  | [.int i, .int j] => P (.int (if j > i then j else i))
  | _ => False
theorem dc_min (hc : X.calm = true) : DC X (.builtin "min") fMin := by
  intro pins s σ H xs us Q I rv ⟨r, G, ds, P, S, hd, p, q⟩
  unfold fMin at p
  split at p
  · cases hd with
    | cons h1 h2 =>
      cases h2
      cases h1 with
      | lst e r1 =>
        obtain ⟨bs, hb, h0, p⟩ := p
        rw [ints_eq hb] at r1
        have e1 := r1.ints
        subst e1
        exact cr_min hc pins s σ H _ us Q I rv ⟨_, bs, rfl, SqL.of (S.gh _ _ e), h0, fun m h1 h2 => q _ _ G H (p m h1 h2) S.grow (.int _)⟩
  · cases hd with
    | cons h1 h2 =>
      cases h2 with
      | cons h2 h3 =>
        cases h3; cases h1; cases h2
        exact call_min2 hc pins s σ H _ us Q I rv ⟨_, _, rfl, q _ _ G H p S.grow (.int _)⟩
  · exact p.elim
theorem dc_max (hc : X.calm = true) : DC X (.builtin "max") fMax := by
  intro pins s σ H xs us Q I rv ⟨r, G, ds, P, S, hd, p, q⟩
  unfold fMax at p
  split at p
  · cases hd with
    | cons h1 h2 =>
      cases h2
      cases h1 with
      | lst e r1 =>
        obtain ⟨bs, hb, h0, p⟩ := p
        rw [ints_eq hb] at r1
        have e1 := r1.ints
        subst e1
        exact cr_max hc pins s σ H _ us Q I rv ⟨_, bs, rfl, SqL.of (S.gh _ _ e), h0, fun m h1 h2 => q _ _ G H (p m h1 h2) S.grow (.int _)⟩
  · cases hd with
    | cons h1 h2 =>
      cases h2 with
      | cons h2 h3 =>
        cases h3; cases h1; cases h2
        exact call_max2 hc pins s σ H _ us Q I rv ⟨_, _, rfl, q _ _ G H p S.grow (.int _)⟩
  · exact p.elim
def fTuple : FC := fun ds P => match ds with
  | [.list xs] => P (.tuple xs)
  | [.tuple xs] => P (.tuple xs)
  | _ => False
theorem dc_tuple : DC X (.type "tuple") fTuple := by
  intro pins s σ H xs us Q I rv ⟨r, G, ds, P, S, hd, p, q⟩
  unfold fTuple at p
  split at p
  · cases hd with
    | cons h1 h2 =>
      cases h2
      cases h1 with
      | lst e r1 =>
        refine call_tuple_of pins s σ H _ us Q I rv ⟨_, _, rfl, .inl ⟨SqL.of (S.gh _ _ e), fun l hl => ?_⟩⟩
        refine q _ _ _ _ p (S.lay hl) ?_
        exact .tup upd_same (r1.mono (S.lay hl).g)
  · cases hd with
    | cons h1 h2 =>
      cases h2
      cases h1 with
      | tup e r1 => exact call_tuple_of pins s σ H _ us Q I rv ⟨_, _, rfl, .inr ⟨same_seqP S.gh e, q _ _ G H p S.grow (.tup e r1)⟩⟩
  · exact p.elim
def fList : FC := fun ds P => match ds with
  | [.list xs] => P (.list xs)
  | [.tuple xs] => P (.list xs)
  | _ => False
theorem dc_list : DC X (.type "list") fList := by
  intro pins s σ H xs us Q I rv ⟨r, G, ds, P, S, hd, p, q⟩
  unfold fList at p
  split at p
  · cases hd with
    | cons h1 h2 =>
      cases h2
      cases h1 with
      | lst e r1 =>
        refine call_list_of pins s σ H _ us Q I rv ⟨_, _, rfl, .inl (SqL.of (S.gh _ _ e)), fun l hl => ?_⟩
        refine q _ _ _ _ p (S.lay hl) ?_
        exact .lst upd_same (r1.mono (S.lay hl).g)
  · cases hd with
    | cons h1 h2 =>
      cases h2
      cases h1 with
      | tup e r1 =>
        refine call_list_of pins s σ H _ us Q I rv ⟨_, _, rfl, .inr (same_seqP S.gh e), fun l hl => ?_⟩
        refine q _ _ _ _ p (S.lay hl) ?_
        exact .lst upd_same (r1.mono (S.lay hl).g)
  · exact p.elim
def fIntC : FC := fun ds P => match ds with
  | [.int i] => P (.int i)
  | [.bool b] => P (.int (if b then 1 else 0))
  | _ => False
theorem dc_int : DC X (.type "int") fIntC := by
  intro pins s σ H xs us Q I rv ⟨r, G, ds, P, S, hd, p, q⟩
  unfold fIntC at p
  split at p
  · cases hd with
    | cons h1 h2 =>
      cases h2; cases h1
      exact call_int1 pins s σ H _ us Q I rv (.inl ⟨_, rfl, q _ _ G H p S.grow (.int _)⟩)
  · cases hd with
    | cons h1 h2 =>
      cases h2; cases h1
      exact call_int1 pins s σ H _ us Q I rv (.inr ⟨_, rfl, q _ _ G H p S.grow (.int _)⟩)
  · exact p.elim
/-- sorted, of dInts -/
def fSortI : FC := fun ds P => match ds with
  | [.list xs] => ∃ bs, dInts xs = some bs ∧ ∀ cs : List Int, cs.Perm bs → cs.Pairwise (· ≤ ·) → P (.list (cs.map .int))
  | _ => False

/-! ### isinstance -/
def typeD : Dt → String
  | .none => "NoneType"
  | .bool _ => "bool"
  | .int _ => "int"
  | .str _ => "str"
  | .list _ => "list"
  | .tuple _ => "tuple"
  | .dict _ => "dict"
/-- a value's type: as the library has it, or a known dict whose keys are tuples -/
inductive TyY (K : Fg) (H : Hp) : V → Value → Prop
  | x {v : V} {t : Value} (h : TyX K H v t) : TyY K H v t
  | dT {a : Addr} {o : Obj} {kvs : List (List Key × V)} (h : H a = some (.frz o (.dT kvs))) : TyY K H (.ref a) (.type "dict")
theorem kit_ofY {X : Cx} {pins : List (Addr × Obj)} {σ : L2.St} {H : Hp} {s : Shared} {v : V} {w t : Value} (I : Inv X pins σ H s) (rv : RelV v w) (h : TyY X.K H v t) :
    ∃ Z : Heap → Prop, PySem.W.KitX X.K w t Z ∧ Z s.heap ∧ w ≠ .builtin "__main__.__loader__#opaque" := by
  cases h with
  | x h => exact kit_of I rv h
  | @dT a ob kvs h =>
    cases (show w = Value.ref a from rv)
    obtain ⟨_, _, _, _, _, o, _, _, g1, g2, _⟩ := (show ObjOk X.prog X.w H s.heap a (.frz ob (.dT kvs)) from I.hok a _ h)
    exact ⟨_, PySem.W.kitx_dict, ⟨o, g1, g2.1⟩, fun z => nomatch z⟩
def rIsY (K : Fg) : List V → Hp → VK → Prop := fun as H Q => ∃ (v c : V) (t cl : Value) (b : Bool), as = [v, c] ∧ ClsV c cl ∧ TyY K H v t ∧ PySem.W.kitOne K t cl = some b ∧ Q (.bl b) H
def rIsYT (K : Fg) : List V → Hp → VK → Prop := fun as H Q => ∃ (v : V) (p : Addr) (cs : List V) (t : Value) (cls : List Value) (b : Bool), as = [v, .ref p] ∧ H p = some (.tup cs) ∧ Paired ClsV cs cls ∧ TyY K H v t ∧ PySem.W.kitAny K t cls = some b ∧ Q (.bl b) H
theorem call_isY {X : Cx} : CallR X (.builtin "isinstance") (rIsY X.K) := by
  intro pins s σ H as ws Q I rv h
  obtain ⟨v, c, t, cl, b, rfl, hk, hy, hb, q⟩ := h
  obtain ⟨w1, w2, rfl, g1, g2⟩ := vals2 rv
  have ec := hk.eq g2
  subst ec
  obtain ⟨Z, hZ, hz, hn⟩ := kit_ofY I g1 hy
  exact PySem.W.kia_one hZ I.kIn hz hb hn fun tk => ⟨.bl b, H, I.tok tk, rfl, q⟩
theorem call_isYT {X : Cx} : CallR X (.builtin "isinstance") (rIsYT X.K) := by
  intro pins s σ H as ws Q I rv h
  obtain ⟨v, p, cs, t, cls, b, rfl, hp, hk, hy, hb, q⟩ := h
  obtain ⟨w1, w2, rfl, g1, g2⟩ := vals2 rv
  cases (show w2 = Value.ref p from g2)
  obtain ⟨Z, hZ, hz, hn⟩ := kit_ofY I g1 hy
  obtain ⟨_, its, gv, o, e1, e2, m, e3⟩ := (show ObjOk X.prog X.w H s.heap p (.tup cs) from I.hok p _ hp)
  have ec := ClsV.all hk gv
  subst ec
  obtain ⟨oc, od, dat, slots⟩ := o
  simp only at e2 e3
  subst e2 e3
  exact PySem.W.kia_tup hZ I.kIn hz e1 hb hn fun tk => ⟨.bl b, H, I.tok tk, rfl, q⟩
theorem tyx_of {K : Fg} {G H : Hp} (g : Same G H) {v : V} {d : Dt} (h : Rep K G v d) : TyY K H v (.type (typeD d)) := by
  cases h with
  | non => exact .x (.base .non)
  | bl => exact .x (.base (.bl _))
  | int => exact .x (.base (.int _))
  | str => exact .x (.base (.str _))
  | lst e _ => exact .x (.base (.lst (g _ _ e)))
  | tup e _ =>
    rcases same_seqP g e with (e | ⟨o, e⟩) | ⟨o, its, n, h1, h2, _⟩
    · exact .x (.base (.tup e))
    · exact .x (.fTuple e)
    · exact .x (.kTuple h1 h2)
  | dic e _ => exact .x (.fDict (g _ _ e))
  | dicT e _ => exact .dT (g _ _ e)
def isTupD : Dt → Bool
  | .tuple _ => true
  | _ => false
def isLstD : Dt → Bool
  | .list _ => true
  | _ => false
def isDicD : Dt → Bool
  | .dict _ => true
  | _ => false
def isStrD : Dt → Bool
  | .str _ => true
  | _ => false
def isIntD : Dt → Bool
  | .int _ => true
  | .bool _ => true
  | _ => false
def isBoolD : Dt → Bool
  | .bool _ => true
  | _ => false
def isSeqD (d : Dt) : Bool := isTupD d || isLstD d
theorem kit_tup (d : Dt) : kitB (typeD d) "tuple" = some (isTupD d) := by cases d <;> simp only [typeD, isTupD] <;> decide +kernel
theorem kit_lst (d : Dt) : kitB (typeD d) "list" = some (isLstD d) := by cases d <;> simp only [typeD, isLstD] <;> decide +kernel
theorem kit_dic (d : Dt) : kitB (typeD d) "dict" = some (isDicD d) := by cases d <;> simp only [typeD, isDicD] <;> decide +kernel
theorem kit_str (d : Dt) : kitB (typeD d) "str" = some (isStrD d) := by cases d <;> simp only [typeD, isStrD] <;> decide +kernel
theorem kit_int (d : Dt) : kitB (typeD d) "int" = some (isIntD d) := by cases d <;> simp only [typeD, isIntD] <;> decide +kernel
theorem kit_bool (d : Dt) : kitB (typeD d) "bool" = some (isBoolD d) := by cases d <;> simp only [typeD, isBoolD] <;> decide +kernel
def dIs (g : Dt → Bool) (ta : PT0) : PT0 := fun ρ P => ta ρ fun x => P (.bool (g x))
theorem de_isi {T : Str} {n : String} {g : Dt → Bool} {p2 : Pos} (hk : ∀ d, kitB (typeD d) n = some (g d)) (ha : DE X a ta) (hm : X.mg "isinstance" = none) (hm2 : X.mg T = none) (hv2 : bootBuiltins T = some (.type n)) (hg : Gl X "isinstance" := by rfl) (hg2 : Gl X T := by rfl) (hv : bootBuiltins "isinstance" = some (.builtin "isinstance") := by decide +kernel)
    (hn : T ≠ "__name__" := by decide) (hdb : (T == ("__debug__" : Str)) = false := by decide)
    (hs : starEach (a :: [.Name T p2]) X.env = (false, eval a X.env) :: starEach [.Name T p2] X.env := by rfl) (hs2 : starEach [.Name T p2] X.env = (false, eval (.Name T p2) X.env) :: starEach [] X.env := by rfl) (hpl : (backTo pos (starEach [.Name T p2] X.env)).any (·.1) = false := by rfl) :
    DE X (.Call (.Name "isinstance" p) [a, .Name T p2] [] pos) (dIs g ta) := by
  refine PE.weak (pe_callB call_isY hg hm hv (pa_cons ha (pa_cons (pe_bltn (v := .ty n) hg2 hm2 hv2 rfl hn hdb) pa_nil hs2) hs) (he := hs) (hpl := hpl)) fun σ H Q ⟨r, G, ρ, P, E, p, q⟩ => ?_
  exact ⟨r, G, ρ, _, E, p, fun v x G1 H1 p1 W1 R1 => ⟨v, .ty n, .type (typeD x), .type n, g x, rfl, .ty n, tyx_of W1.gh R1, kit_ty (hk x), q _ _ _ _ p1 W1 (.bl _)⟩⟩
/-- isinstance(x, (tuple, list)) -/
theorem de_isi2 {T U : Str} {m n : String} {g h : Dt → Bool} {p2 p3 p4 : Pos} {k4} (hk : ∀ d, kitB (typeD d) m = some (g d)) (hk2 : ∀ d, kitB (typeD d) n = some (h d)) (ha : DE X a ta) (hm : X.mg "isinstance" = none) (hm1 : X.mg T = none) (hm2 : X.mg U = none)
    (hv1 : bootBuiltins T = some (.type m)) (hv2 : bootBuiltins U = some (.type n)) (hg : Gl X "isinstance" := by rfl) (hg1 : Gl X T := by rfl) (hg2 : Gl X U := by rfl) (hv : bootBuiltins "isinstance" = some (.builtin "isinstance") := by decide +kernel)
    (hn1 : T ≠ "__name__" := by decide) (hdb1 : (T == ("__debug__" : Str)) = false := by decide) (hn2 : U ≠ "__name__" := by decide) (hdb2 : (U == ("__debug__" : Str)) = false := by decide)
    (hs : starEach (a :: [.Tuple [.Name T p2, .Name U p3] k4 p4]) X.env = (false, eval a X.env) :: starEach [.Tuple [.Name T p2, .Name U p3] k4 p4] X.env := by rfl) (hs2 : starEach [.Tuple [.Name T p2, .Name U p3] k4 p4] X.env = (false, eval (.Tuple [.Name T p2, .Name U p3] k4 p4) X.env) :: starEach [] X.env := by rfl)
    (hs3 : starEach [.Name T p2, .Name U p3] X.env = (false, eval (.Name T p2) X.env) :: starEach [.Name U p3] X.env := by rfl) (hs4 : starEach [.Name U p3] X.env = (false, eval (.Name U p3) X.env) :: starEach [] X.env := by rfl)
    (hpl : (backTo pos (starEach [.Tuple [.Name T p2, .Name U p3] k4 p4] X.env)).any (·.1) = false := by rfl) :
    DE X (.Call (.Name "isinstance" p) [a, .Tuple [.Name T p2, .Name U p3] k4 p4] [] pos) (dIs (fun d => g d || h d) ta) := by
  refine PE.weak (pe_callB call_isYT hg hm hv (pa_cons ha (pa_cons (pe_tup (pa_cons (pe_bltn (v := .ty m) hg1 hm1 hv1 rfl hn1 hdb1) (pa_cons (pe_bltn (v := .ty n) hg2 hm2 hv2 rfl hn2 hdb2) pa_nil hs4) hs3)) pa_nil hs2) hs) (he := hs) (hpl := hpl)) fun σ H Q ⟨r, G, ρ, P, E, p, q⟩ => ?_
  refine ⟨r, G, ρ, _, E, p, fun v x G1 H1 p1 W1 R1 => ⟨by show 2 ≤ sizeLine; decide, fun c hc => ⟨v, c, [.ty m, .ty n], .type (typeD x), [.type m, .type n], g x || h x, rfl, upd_same, .cons (.ty m) (.cons (.ty n) .nil), ?_, kitAny_cons (kit_ty (hk x)) (fun e => kitAny_cons (r := g x || h x) (kit_ty (hk2 x)) (fun e2 => ?_) (fun e2 => ?_)) (fun e => ?_), ?_⟩⟩⟩
  · exact tyx_of (W1.gh.trans (same_upd hc)) R1
  · rw [e, e2]; exact kitAny_nil
  · rw [e2, Bool.or_true]
  · rw [e, Bool.true_or]
  · exact q _ _ _ _ p1 (W1.trans ((W1.start E.st).lay hc)) (.bl _)
end
end PD
namespace PD
open PySem PySem.Spec PyProof.Rows L2

section
variable {K : Fg} {r : Option Addr} {G H G' H' : Hp} {p : Addr} {o : HO}
/-- a new object that is not frozen yet -/
theorem Start.lay0 (S : Start K r G H) (hp : H p = none) : Grow K r G H G (upd H p o) :=
  ⟨Same.refl _, fun b u _ _ e => (upd_ne (ne_of_none e hp)).trans e, fun b u e => (upd_ne (ne_of_none (S.gh _ _ e) hp)).trans (S.gh _ _ e), fun _ _ _ e => e, fun a e => by
    have q := (S.row a e).2
    obtain ⟨_, _, _, _, _, h2, _⟩ := id q
    exact q.at (Same.refl _) (upd_ne (ne_of_none h2 hp)), .upd fun u e => (by rw [hp] at e; cases e), fun _ _ e => e⟩
/-- a young object that is not frozen may change -/
theorem Grow.off (W : Grow K r G H G' H') (hp : H p = none) (gp : G' p = none) (hr : r ≠ some p) (no : ∀ u, H' p = some u → NE u) : Grow K r G H G' (upd H' p o) :=
  ⟨W.g, fun b u n m e => (upd_ne (ne_of_none e hp)).trans (W.h b u n e m), fun b u e => (upd_ne (ne_of_none e gp)).trans (W.gh _ _ e), W.y, fun a e => by
    have ne : a ≠ p := fun z => hr (z ▸ e)
    exact (W.row a e).at (Same.refl _) (upd_ne ne), W.t.trans (.upd no), W.nt⟩
/-- .. and is frozen -/
theorem Grow.freeze (W : Grow K r G H G' H') (hp : H p = none) (gp : G' p = none) (ho : H' p = some o) (no : NT o := by intro _ z; cases z) : Grow K r G H (upd G' p o) H' :=
  ⟨W.g.trans (same_upd gp), W.h0, fun b u e => by
    by_cases hb : b = p
    · subst hb; rw [upd_same] at e; rw [ho, e]
    · rw [upd_ne hb] at e; exact W.gh _ _ e, fun b u e n => (upd_ne (ne_of_none e hp)).trans (W.y b u e n), fun a e => (W.row a e).at (same_upd gp) rfl, W.t, fun b ps e => by
    by_cases hb : b = p
    · subst hb
      rw [upd_same] at e
      exact absurd (Option.some.inj e) (no ps)
    · rw [upd_ne hb] at e; exact W.nt b ps e⟩
theorem Start.rowNe (S : Start K r G H) (hp : H p = none) : r ≠ some p := fun e => by
  obtain ⟨_, _, _, _, _, _, h2, _⟩ := S.row p e
  rw [hp] at h2; cases h2
end

/-! ### slots forgotten -/
def wipeP (ρ : List PV) : List Nat → List PV
  | [] => ρ
  | v :: vs => (wipeP ρ vs).set v .un
theorem wipe_get (σ : L2.St) (k : Nat) : ∀ vs : List Nat, (wipe σ vs)[k]? = if k ∈ vs then (σ[k]?).map (fun _ => none) else σ[k]?
  | [] => by simp [wipe]
  | v :: vs => by
    unfold wipe
    rw [List.getElem?_set, wipe_get σ k vs, wipe_length]
    by_cases h : v = k
    · subst h
      by_cases hl : v < σ.length
      · simp [hl]
      · simp [hl, List.getElem?_eq_none (Nat.le_of_not_lt hl)]
    · simp [h, Ne.symm h]
theorem wipe_twice {σ τ : L2.St} {vs js : List Nat} (hj : ∀ j ∈ js, j ∈ vs) (h : ∀ k, k ∉ js → τ[k]? = (wipe σ vs)[k]?) (hl : τ.length = σ.length) : wipe τ vs = wipe σ vs := by
  apply List.ext_getElem?
  intro k
  rw [wipe_get, wipe_get]
  by_cases hk : k ∈ vs
  · rw [if_pos hk, if_pos hk]
    by_cases hs : k < σ.length
    · rw [List.getElem?_eq_getElem hs, List.getElem?_eq_getElem (hl ▸ hs)]; rfl
    · rw [List.getElem?_eq_none (Nat.le_of_not_lt hs), List.getElem?_eq_none (by omega)]
  · rw [if_neg hk, if_neg hk, h k (fun z => hk (hj k z)), wipe_get, if_neg hk]
section
variable {K : Fg} {r : Option Addr} {G H G' H' : Hp} {σ : L2.St} {ρ : List PV}
theorem EnvR.un (E : EnvR K r G H σ ρ) (i : Nat) (o : Option V) : EnvR K r G H (σ.set i o) (ρ.set i .un) := by
  refine ⟨E.st, by simp [E.len], fun j p e => ?_, fun j k a x' y' e1 e2 e3 e4 => ?_, apart_set E.apart (fun _ => by simp) (fun _ _ _ => by simp)⟩
  · by_cases hj : j = i
    · subst hj
      have hl : j < ρ.length := by
        have := (List.getElem?_eq_some_iff.mp e).1
        simpa using this
      rw [List.getElem?_set_self hl] at e
      cases e
      exact ⟨o, List.getElem?_set_self (by rw [E.len]; exact hl), trivial⟩
    · rw [List.getElem?_set_ne (Ne.symm hj)] at e ⊢
      exact E.slot j p e
  · have h1 : j ≠ i := fun z => by
      subst z
      rw [List.getElem?_set] at e1
      split at e1
      · split at e1 <;> cases e1
      · contradiction
    have h2 : k ≠ i := fun z => by
      subst z
      rw [List.getElem?_set] at e2
      split at e2
      · split at e2 <;> cases e2
      · contradiction
    rw [List.getElem?_set_ne (Ne.symm h1)] at e1 e3
    rw [List.getElem?_set_ne (Ne.symm h2)] at e2 e4
    exact E.dist j k a x' y' e1 e2 e3 e4
theorem EnvR.wipe (E : EnvR K r G H σ ρ) : ∀ vs : List Nat, EnvR K r G H (L2.wipe σ vs) (wipeP ρ vs)
  | [] => E
  | v :: vs => (EnvR.wipe E vs).un v none
end

/-! ### targets -/
abbrev PTG := Dt → List PV → (List PV → Prop) → Prop
abbrev PTGs := List Dt → List PV → (List PV → Prop) → Prop
/-- what a store of frozen data leaves as it was -/
structure Sets (js : List Nat) (σ : L2.St) (ρ : List PV) (σ' : L2.St) (ρ' : List PV) : Prop where
  other : ∀ k, k ∉ js → σ'[k]? = σ[k]? ∧ ρ'[k]? = ρ[k]?
  len : σ'.length = σ.length
  d : ∀ k x, k ∈ js → ρ'[k]? ≠ some (.own x)
  o : ∀ k C a fs, k ∈ js → ρ'[k]? ≠ some (.obj C a fs)
theorem Sets.refl (σ : L2.St) (ρ : List PV) : Sets [] σ ρ σ ρ := ⟨fun _ _ => ⟨rfl, rfl⟩, rfl, fun _ _ h => by simp at h, fun _ _ _ _ h => by simp at h⟩
theorem Sets.trans {js ks : List Nat} {σ σ1 σ2 : L2.St} {ρ ρ1 ρ2 : List PV} (a : Sets js σ ρ σ1 ρ1) (b : Sets ks σ1 ρ1 σ2 ρ2) : Sets (js ++ ks) σ ρ σ2 ρ2 :=
  ⟨fun k h => by
    rw [List.mem_append, not_or] at h
    have h1 := a.other k h.1
    have h2 := b.other k h.2
    exact ⟨h2.1.trans h1.1, h2.2.trans h1.2⟩, b.len.trans a.len, fun k x h => by
    by_cases hk : k ∈ ks
    · exact b.d k x hk
    · rw [(b.other k hk).2]
      exact a.d k x ((List.mem_append.mp h).resolve_right hk), fun k C c fs h => by
    by_cases hk : k ∈ ks
    · exact b.o k C c fs hk
    · rw [(b.other k hk).2]
      exact a.o k C c fs ((List.mem_append.mp h).resolve_right hk)⟩
def liftG (K : Fg) (js : List Nat) (g : PTG) : TG := fun v σ H Q => ∃ (r : Option Addr) (G : Hp) (ρ : List PV) (x : Dt) (P : List PV → Prop), EnvR K r G H σ ρ ∧ Rep K G v x ∧ g x ρ P ∧ ∀ σ' ρ', P ρ' → EnvR K r G H σ' ρ' → Sets js σ ρ σ' ρ' → Q σ' H
def liftGs (K : Fg) (js : List Nat) (g : PTGs) : TGs := fun vs σ H Q => ∃ (r : Option Addr) (G : Hp) (ρ : List PV) (xs : List Dt) (P : List PV → Prop), EnvR K r G H σ ρ ∧ Reps K G vs xs ∧ g xs ρ P ∧ ∀ σ' ρ', P ρ' → EnvR K r G H σ' ρ' → Sets js σ ρ σ' ρ' → Q σ' H
def DG (X : Cx) (e : Expr) (js : List Nat) (g : PTG) : Prop := PG X e (liftG X.K js g)
def DGs (X : Cx) (es : List Expr) (js : List Nat) (g : PTGs) : Prop := PGs X es (liftGs X.K js g)
theorem PG.weak {X : Cx} {e : Expr} {t u : TG} (h : PG X e t) (w : ∀ v σ H Q, u v σ H Q → t v σ H Q) : PG X e u := ⟨fun pins s σ H v u Q I r q => h.run pins s σ H v u Q I r (w v σ H Q q)⟩
theorem PGs.weak {X : Cx} {e : List Expr} {t u : TGs} (h : PGs X e t) (w : ∀ v σ H Q, u v σ H Q → t v σ H Q) : PGs X e u := ⟨fun pins s σ H v u Q I r q => h.run pins s σ H v u Q I r (w v σ H Q q)⟩
def aName (i : Nat) : PTG := fun x ρ P => P (ρ.set i (.d x))
def aNil : PTGs := fun xs ρ P => xs = [] ∧ P ρ
def aCons (t : PTG) (u : PTGs) : PTGs := fun xs ρ P => ∃ x r, xs = x :: r ∧ t x ρ fun ρ' => u r ρ' P
def aTup (n : Nat) (t : PTGs) : PTG := fun x ρ P => ∃ xs, x = .tuple xs ∧ xs.length = n ∧ t xs ρ P
section
variable {X : Cx} {pos : Pos}
theorem dg_name (i : Nat) {x : Str} (hN : X.N.Nodup) (hi : X.N[i]? = some x := by rfl) (hx : Loc X.env.scope x := by first | exact Or.inl rfl | exact Or.inr rfl) (hf : X.fn x = true ∨ X.env.scope.names.lookup x = some .local := by first | exact .inl rfl | exact .inr rfl) : DG X (.Name x pos) [i] (aName i) :=
  PG.weak (pg_name hN hi hx hf) fun v σ H Q ⟨r, G, ρ, x, P, E, R, p, q⟩ => q _ _ p (E.set R) ⟨fun k hk => by
    have : i ≠ k := fun z => hk (by simp [z])
    exact ⟨List.getElem?_set_ne this, List.getElem?_set_ne this⟩, by simp, fun k y hk => by
    have : k = i := by simpa using hk
    subst this
    rw [List.getElem?_set]
    simp only [if_true]
    split <;> simp, fun k C a fs hk => by
    have : k = i := by simpa using hk
    subst this
    rw [List.getElem?_set]
    simp only [if_true]
    split <;> simp⟩
theorem dgs_nil : DGs X [] [] aNil := PGs.weak pgs_nil fun vs σ H Q ⟨r, G, ρ, xs, P, E, R, ⟨e, p⟩, q⟩ => by
  subst e
  cases R
  exact ⟨rfl, q _ _ p E (Sets.refl _ _)⟩
theorem dgs_cons {e : Expr} {es : List Expr} {js ks : List Nat} {t : PTG} {u : PTGs} (h1 : DG X e js t) (h2 : DGs X es ks u)
    (hs : (assignEach (e :: es) X.env).map (·.2) = assign e X.env :: (assignEach es X.env).map (·.2) := by rfl) : DGs X (e :: es) (js ++ ks) (aCons t u) := PGs.weak (pgs_cons h1 h2 hs) fun vs σ H Q ⟨r, G, ρ, xs, P, E, R, ⟨x, xr, e, p⟩, q⟩ => by
  subst e
  cases R with
  | cons R1 R2 => exact ⟨_, _, rfl, r, G, ρ, x, _, E, R1, p, fun σ1 ρ1 p1 E1 S1 => ⟨r, G, ρ1, xr, P, E1, R2, p1, fun σ2 ρ2 p2 E2 S2 => q _ _ p2 E2 (S1.trans S2)⟩⟩
theorem dg_tup {es : List Expr} {k : Nat} {js : List Nat} {t : PTGs} {n : Nat} (hc : X.calm = true) (h : DGs X es js t)
    (hn : (assignEach es X.env).length = n := by rfl) (hst : (assignEach es X.env).findIdx? (·.1) = none := by rfl) : DG X (.Tuple es k pos) js (aTup n t) := PG.weak (pg_tup hc h hn hst) fun v σ H Q ⟨r, G, ρ, x, P, E, R, ⟨xs, e, hl, p⟩, q⟩ => by
  subst e
  cases R with
  | tup e R => exact ⟨_, _, rfl, same_seqP E.st.gh e, by rw [R.length]; exact hl, r, G, ρ, xs, P, E, R, p, q⟩
end

/-! ### what is walked -/
abbrev PTI := List PV → (List Dt → Prop) → Prop
structure ItR (K : Fg) (G : Hp) (J : It) (xs : List Dt) : Prop where
  len : xs.length ≤ sizeLine
  ex : ∃ (Gd : Hp → Prop) (Y : Nat → Hp → V → Hp → Prop), Walk J xs.length Gd Y ∧ (∀ H, Same G H → Gd H) ∧ ∀ i H v H' x Gc r, Same G Gc → Start K r Gc H → xs[i]? = some x → Y i H v H' → ∃ Gc', Grow K r Gc H Gc' H' ∧ Rep K Gc' v x
def liftI (K : Fg) (t : PTI) : TI := fun σ H R => ∃ (r : Option Addr) (G : Hp) (ρ : List PV) (P : List Dt → Prop), EnvR K r G H σ ρ ∧ t ρ P ∧ ∀ J xs G' H', P xs → Grow K r G H G' H' → ItR K G' J xs → R J H'
def DI (X : Cx) (tg e : Expr) (t : PTI) : Prop := PI X tg e (liftI X.K t)
theorem PI.weak {X : Cx} {tg e : Expr} {t u : TI} (h : PI X tg e t) (w : ∀ σ H Q, u σ H Q → t σ H Q) : PI X tg e u := ⟨fun pins s σ H R I q => h.run pins s σ H R I (w σ H R q)⟩
section
variable {K : Fg} {G : Hp}
theorem itr_list {a : Addr} {vs : List V} {xs : List Dt} (e : G a = some (.lst vs)) (R : Reps K G vs xs) (hz : xs.length ≤ sizeLine) : ItR K G (Itl K a) xs :=
  ⟨hz, _, _, R.length ▸ walk_list (xs := vs), fun H g => SqL.of (g _ _ e), fun i H v H' x Gc r g S hx ⟨h1, h2⟩ => by
    subst h1
    obtain ⟨w, e1, r1⟩ := R.get hx
    rw [h2] at e1
    cases e1
    exact ⟨Gc, S.grow, r1.mono g⟩⟩
theorem itr_tup {a : Addr} {vs : List V} {xs : List Dt} (e : G a = some (.tup vs)) (R : Reps K G vs xs) (hz : xs.length ≤ sizeLine) : ItR K G (Itt K a) xs :=
  ⟨hz, _, _, R.length ▸ walk_tup (xs := vs), fun H g => same_seqP g e, fun i H v H' x Gc r g S hx ⟨h1, h2⟩ => by
    subst h1
    obtain ⟨w, e1, r1⟩ := R.get hx
    rw [h2] at e1
    cases e1
    exact ⟨Gc, S.grow, r1.mono g⟩⟩
def rangeD (lo : Int) (n : Nat) : List Dt := (List.range n).map fun i => .int (lo + (i : Nat))
theorem rangeD_length (lo : Int) (n : Nat) : (rangeD lo n).length = n := by simp [rangeD]
theorem itr_range {lo : Int} {n : Nat} (hz : n ≤ sizeLine) : ItR K G (Itr lo n) (rangeD lo n) :=
  ⟨by rw [rangeD_length]; exact hz, fun _ => True, YFn fun i => .int (lo + i), by rw [rangeD_length]; exact walk_range, fun _ _ => trivial, fun i H v H' x Gc r g S hx ⟨h1, h2⟩ => by
    subst h1 h2
    refine ⟨Gc, S.grow, ?_⟩
    unfold rangeD at hx
    rw [List.getElem?_map] at hx
    by_cases hi : i < n
    · rw [List.getElem?_range hi] at hx
      cases hx
      exact .int _
    · rw [List.getElem?_eq_none (by simp; omega)] at hx
      cases hx⟩
def signs (z : Str) : List Dt := z.cps.toList.map fun c => .str ⟨#[c]⟩
theorem itr_str {z : Str} (hz : z.cps.size ≤ sizeLine) : ItR K G (Its z) (signs z) :=
  ⟨by simpa [signs] using hz, fun _ => True, fun i H v H' => H' = H ∧ ∃ c, z.cps[i]? = some c ∧ v = .str ⟨#[c]⟩, by rw [show (signs z).length = z.cps.size by simp [signs]]; exact walk_str, fun _ _ => trivial, fun i H v H' x Gc r g S hx ⟨h1, c, h2, h3⟩ => by
    subst h1 h3
    refine ⟨Gc, S.grow, ?_⟩
    unfold signs at hx
    rw [List.getElem?_map] at hx
    have : z.cps.toList[i]? = some c := by simpa using h2
    rw [this] at hx
    cases hx
    exact .str _⟩
end
/-- a list, a tuple, a text -/
def dIter (te : PT0) : PTI := fun ρ P => te ρ fun d => match d with
  | .list xs => P xs
  | .tuple xs => P xs
  | _ => False
def dIterS (te : PT0) : PTI := fun ρ P => te ρ fun d => ∃ z, d = .str z ∧ z.cps.size ≤ sizeLine ∧ P (signs z)
section
variable {X : Cx} {tg e : Expr} {te : PT0} {pos p : Pos}
theorem one_fp {pins : List (Addr × Obj)} {σ : L2.St} {H : Hp} {s : Shared} (I : Inv X pins σ H s) : ∀ b ∈ [s.heap.objs.size], FpOk X pins H b := fun b hb => by
  cases hb with
  | head => exact I.fpOk (Nat.le_refl _) (I.hok.fresh (Nat.le_refl _))
  | tail _ h => cases h
theorem di_any (he : DE X e te) : DI X tg e (dIter te) := by
  refine ⟨fun pins s σ H R I ⟨r, G, ρ, P, E, p, q⟩ => ?_⟩
  refine thn (he.run pins s σ H (fun v H' => ∃ d G', (match d with | .list xs => P xs | .tuple xs => P xs | _ => False) ∧ Grow X.K r G H G' H' ∧ Rep X.K G' v d) I ⟨r, G, ρ, _, E, p, fun v d G' H' p' W R => ⟨d, G', p', W, R⟩⟩) fun u s' ⟨v, H', I', rv, d, G', p', W, R⟩ => ?_
  cases d <;> try exact p'.elim
  · cases R with
    | lst e1 r1 =>
      cases rv
      obtain ⟨its, _, pl, hz⟩ := I'.list (SqL.of (W.gh _ _ e1))
      refine wpAny_pyIter_list pl.isList ⟨_, [s'.heap.objs.size], _, _, H', rfl, I'.kept (t' := s'.toks) fun b o e => Heap.get?_push_of_some _ e, turn_list _ _, ⟨_, Heap.get?_push_size _ rfl, rfl, rfl⟩, one_fp I', q _ _ _ _ p' W (itr_list e1 r1 (r1.length ▸ hz))⟩
  · cases R with
    | tup e1 r1 =>
      cases rv
      obtain ⟨its, _, pl, hz⟩ := I'.tuple (same_seqP W.gh e1)
      refine wpAny_pyIter_tuple (show s'.heap.IsTuple _ its.toArray from pl) ⟨_, [s'.heap.objs.size], _, _, H', rfl, I'.kept (t' := s'.toks) fun b o e => Heap.get?_push_of_some _ e, turn_tuple _ _, ⟨_, Heap.get?_push_size _ rfl, rfl, rfl⟩, one_fp I', q _ _ _ _ p' W (itr_tup e1 r1 (r1.length ▸ hz))⟩
theorem di_str (he : DE X e te) : DI X tg e (dIterS te) := PI.weak (pi_str he) fun σ H R ⟨r, G, ρ, P, E, p, q⟩ => ⟨r, G, ρ, _, E, p, fun v d G1 H1 ⟨z, e1, hz, p1⟩ W1 R1 => by
  subst e1
  cases R1
  exact ⟨z, rfl, q _ _ _ _ p1 W1 (itr_str hz)⟩⟩
/-- range(b), range(a, b) -/
def dRng1 (t : PTA) : PTI := fun ρ P => t ρ fun xs => ∃ j : Int, xs = [.int j] ∧ (-1000000000 ≤ j ∧ j ≤ 16777216) ∧ P (rangeD 0 j.toNat)
def dRng2 (t : PTA) : PTI := fun ρ P => t ρ fun xs => ∃ i j : Int, xs = [.int i, .int j] ∧ (0 ≤ i ∧ i ≤ 16777216 ∧ -1000000000 ≤ j ∧ j ≤ 16777216) ∧ P (rangeD i (j - i).toNat)
theorem di_range1 {a : Expr} {t : PTA} (hm : X.mg "range" = none) (ha : DA X [a] t) (hg : Gl X "range" := by rfl) (hs : starEach [a] X.env = [(false, eval a X.env)] := by rfl) : DI X tg (.Call (.Name "range" p) [a] [] pos) (dRng1 t) :=
  PI.weak (pi_range1 hg hm ha hs) fun σ H R ⟨r, G, ρ, P, E, p, q⟩ => ⟨r, G, ρ, _, E, p, fun vs ds G1 H1 ⟨j, e1, hj, p1⟩ W1 R1 => by
    subst e1
    cases R1 with
    | cons h1 h2 =>
      cases h1; cases h2
      exact ⟨j, rfl, by omega, by omega, q _ _ _ _ p1 W1 (itr_range (by rw [sizeLine_eq]; omega))⟩⟩
theorem di_range2 {a b : Expr} {t : PTA} (hm : X.mg "range" = none) (ha : DA X [a, b] t) (hg : Gl X "range" := by rfl) (hs : starEach [a, b] X.env = [(false, eval a X.env), (false, eval b X.env)] := by rfl) (hs2 : starEach [b] X.env = [(false, eval b X.env)] := by rfl) :
    DI X tg (.Call (.Name "range" p) [a, b] [] pos) (dRng2 t) :=
  PI.weak (pi_range2 hg hm ha hs hs2) fun σ H R ⟨r, G, ρ, P, E, p, q⟩ => ⟨r, G, ρ, _, E, p, fun vs ds G1 H1 ⟨i, j, e1, hj, p1⟩ W1 R1 => by
    subst e1
    cases R1 with
    | cons h1 h2 =>
      cases h2 with
      | cons h2 h3 =>
        cases h1; cases h2; cases h3
        exact ⟨i, j, rfl, by omega, q _ _ _ _ p1 W1 (itr_range (by rw [sizeLine_eq]; omega))⟩⟩

/-! ### tests of a comprehension, the comprehension -/
def DTs (X : Cx) (ifs : List Expr) (t : PTT) : Prop := PTs X ifs (liftT X.K t)
def dYes : PTT := fun _ P => P true
theorem PTs.weak {X : Cx} {e : List Expr} {t u : TT} (h : PTs X e t) (w : ∀ σ H Q, u σ H Q → t σ H Q) : PTs X e u := ⟨fun pins s σ H Q I q => h.run pins s σ H Q I (w σ H Q q)⟩
theorem dts_nil : DTs X [] dYes := PTs.weak pts_nil fun σ H Q ⟨r, G, ρ, P, E, p, q⟩ => q _ _ _ p E.st.grow
theorem dts_one {c : Expr} {t : PTT} (h : DT X c t) : DTs X [c] t := pts_one h
/-- what a comprehension makes of the things walked -/
def lcP (g : PTG) (tt : PTT) (te : PT0) (ρ : List PV) : List Dt → List Dt → (List Dt → Prop) → Prop
  | [], acc, P => P acc
  | x :: xs, acc, P => g x ρ fun ρ1 => tt ρ1 fun k => if k = true then te ρ1 fun y => lcP g tt te ρ xs (acc ++ [y]) P else lcP g tt te ρ xs acc P
def dComp (ti : PTI) (g : PTG) (tt : PTT) (te : PT0) (vs : List Nat) : PT0 := fun ρ P => ti ρ fun xs => xs.length ≤ sizeLine → lcP g tt te (wipeP ρ vs) xs [] fun ys => P (.list ys)
theorem lift_comp {ti : PTI} {g : PTG} {tt : PTT} {te : PT0} {vs js : List Nat} (hj : ∀ j ∈ js, j ∈ vs) {σ : L2.St} {H : Hp} {Q : VK} (h : liftE X.K (dComp ti g tt te vs) σ H Q) :
    tLc (liftI X.K ti) (liftG X.K js g) (liftT X.K tt) (liftE X.K te) vs σ H Q := by
  obtain ⟨r, G, ρ, P, E, p, q⟩ := h
  refine ⟨r, G, ρ, _, E, p, fun J xs G1 H1 p1 W1 hJ D hD => ?_⟩
  obtain ⟨Gd, Y, wk, hG, hY⟩ := hJ.ex
  have p1 := p1 hJ.len
  have S1 : Start X.K r G1 H1 := W1.start E.st
  have E1 := E.grow W1
  have gD : G1 D = none := S1.gh.free hD
  have rD : r ≠ some D := S1.rowNe hD
  refine lc_it wk (fun i H => ∃ Gi acc ds, Grow X.K r G1 H1 Gi H ∧ Gi D = none ∧ H D = some (.lst acc) ∧ Reps X.K Gi acc ds ∧ ds.length ≤ i ∧ lcP g tt te (wipeP ρ vs) (xs.drop i) ds fun ys => P (.list ys))
    ⟨G1, [], [], S1.grow.off hD gD rD (ne_no hD), gD, upd_same, .nil, Nat.zero_le _, by rw [List.drop_zero]; exact p1⟩ (fun i H _ ⟨Gi, _, _, W, _⟩ => ?_) (fun i x H H' hi ⟨Gi, acc, ds, W, gi, hd, R, hl, pp⟩ hy => ?_) (fun H ⟨Gi, acc, ds, W, gi, hd, R, hl, pp⟩ => ?_)
  · exact hG H (W.g.trans W.gh)
  · obtain ⟨Gc, Wc, Rx⟩ := hY i H x H' xs[i] Gi r W.g (W.start S1) (List.getElem?_eq_getElem hi) hy
    rw [List.drop_eq_getElem_cons hi] at pp
    refine ⟨r, Gc, wipeP ρ vs, xs[i], _, ((E1.grow W).grow Wc).wipe vs, Rx, pp, fun σ2 ρ2 p2 E2 Sx => ⟨wipe_twice hj (fun k hk => (Sx.other k hk).1) (Sx.len.trans (wipe_length σ vs)), r, Gc, ρ2, _, E2, p2, fun k G3 H3 p3 W3 => ?_⟩⟩
    have hd2 := Wc.h D _ rD hd
    have gi2 := Wc.y D _ hd gi
    have hd3 := W3.h D _ rD hd2
    have gi3 := W3.y D _ hd2 gi2
    cases k with
    | false => exact ⟨G3, acc, ds, (W.trans Wc).trans W3, gi3, hd3, R.mono (Wc.g.trans W3.g), Nat.le_succ_of_le hl, p3⟩
    | true =>
      refine iteT ⟨r, G3, ρ2, _, E2.grow W3, (if_pos rfl).mp p3, fun y d G4 H4 p4 W4 R4 => ?_⟩
      have hd4 := W4.h D _ rD hd3
      have gi4 := W4.y D _ hd3 gi3
      have hz := hJ.len
      have hal := R.length
      refine ⟨acc, hd4, by omega, G4, acc ++ [y], ds ++ [d], (((W.trans Wc).trans W3).trans W4).off hD gi4 rD (ne_at hd4 ne_lst), gi4, upd_same, (R.mono ((Wc.g.trans W3.g).trans W4.g)).snoc R4, by rw [List.length_append, List.length_singleton]; omega, p4⟩
  · rw [List.drop_length] at pp
    have pp : P (.list ds) := pp
    have W2 := W.freeze hD gi hd
    exact q _ _ _ _ pp (W1.trans W2) (.lst upd_same (R.mono (same_upd gi)))
theorem de_lc {elt tg iter : Expr} {ifs : List Expr} {scope : Scope} (own : List (Str × Nat)) {js : List Nat} {ti : PTI} {g : PTG} {tt : PTT} {te : PT0} {pos : Pos} (hc : X.calm = true) (hN : X.N.Nodup) (hi : DI X tg iter ti) (hg : ∀ (s : Shared) (H : Hp) (C : Addr) (cl : List (Str × Addr)) (fp : List Addr), DG (X.blk s H scope (compEnvC scope cl C X.env) fp) tg js g)
    (ht : ∀ (s : Shared) (H : Hp) (C : Addr) (cl : List (Str × Addr)) (fp : List Addr), DTs (X.blk s H scope (compEnvC scope cl C X.env) fp) ifs tt) (he : ∀ (s : Shared) (H : Hp) (C : Addr) (cl : List (Str × Addr)) (fp : List Addr), DE (X.blk s H scope (compEnvC scope cl C X.env) fp) elt te)
    (ok : blkC X.N X.env.scope scope own = true) (hj : ∀ j ∈ js, j ∈ own.map (·.2) := by decide) (hs : ∀ x, foldedSetIterable iter X.env x = pure x := by intro _; rfl) : DE X (.ListComp elt [⟨tg, iter, ifs, 0⟩] scope pos) (dComp ti g tt te (own.map (·.2))) :=
  PE.weak (pe_lc (g := liftG X.K js g) (tt := liftT X.K tt) (te := liftE X.K te) hc hN hi (blkOk_by ok) hg ht he hs) fun σ H Q h => lift_comp hj h
end
end PD
namespace PD
open PySem PySem.Spec PyProof.Rows L2

/-! ### what is handed to a def -/
def ArgR (K : Fg) (r : Option Addr) (G : Hp) (v : V) : PV → Prop
  | .d x => Rep K G v x
  | .row => ∃ a, v = .ref a ∧ r = some a
  | .scr ns => ∃ a, v = .ref a ∧ SqL K G a (ns.map V.int)
  | .ins C fs => ∃ a dx vs, v = .ref a ∧ G a = some (.ins C dx vs) ∧ RepF K G vs fs
  | .fz p => ∀ G' H', Same G G' → p K G' H' (some v)
  | _ => False
theorem ArgR.mono {K : Fg} {r : Option Addr} {G G' : Hp} {v : V} {p : PV} (g : Same G G') (h : ArgR K r G v p) : ArgR K r G' v p := by
  cases p with
  | d x => exact Rep.mono g h
  | row => exact h
  | scr ns => obtain ⟨a, e, q⟩ := h; exact ⟨a, e, g.seq q⟩
  | un => exact h
  | own => exact h
  | rng => exact h
  | ins C fs => obtain ⟨a, dx, vs, e, q, f⟩ := h; exact ⟨a, dx, vs, e, g _ _ q, f.mono g⟩
  | obj => exact h
  | fz p => exact fun G2 H2 g2 => h G2 H2 (g.trans g2)
abbrev Args (K : Fg) (r : Option Addr) (G : Hp) : List V → List PV → Prop := Paired (ArgR K r G)
theorem Args.mono {K : Fg} {r : Option Addr} {G G' : Hp} (g : Same G G') : ∀ {vs : List V} {as : List PV}, Args K r G vs as → Args K r G' vs as
  | _, _, .nil => .nil
  | _, _, .cons h t => .cons (h.mono g) (Args.mono g t)
abbrev PTV := List PV → (PV → Prop) → Prop
abbrev PTAs := List PV → (List PV → Prop) → Prop
def liftV (K : Fg) (t : PTV) : TE := fun σ H Q => ∃ (r : Option Addr) (G : Hp) (ρ : List PV) (P : PV → Prop), EnvR K r G H σ ρ ∧ t ρ P ∧ ∀ v d G' H', P d → Grow K r G H G' H' → ArgR K r G' v d → Q v H'
def liftAs (K : Fg) (t : PTAs) : TA := fun σ H Q => ∃ (r : Option Addr) (G : Hp) (ρ : List PV) (P : List PV → Prop), EnvR K r G H σ ρ ∧ t ρ P ∧ ∀ vs ds G' H', P ds → Grow K r G H G' H' → Args K r G' vs ds → Q vs H'
def DV (X : Cx) (e : Expr) (t : PTV) : Prop := PE X e (liftV X.K t)
def DAs (X : Cx) (es : List Expr) (t : PTAs) : Prop := PA X es (liftAs X.K t)
def vE (t : PT0) : PTV := fun ρ P => t ρ fun x => P (.d x)
def vRow (i : Nat) : PTV := fun ρ P => ρ[i]? = some .row ∧ P .row
def vScr (i : Nat) : PTV := fun ρ P => ∃ ns, ρ[i]? = some (.scr ns) ∧ P (.scr ns)
def vNil : PTAs := fun _ P => P []
def vCons (t : PTV) (u : PTAs) : PTAs := fun ρ P => t ρ fun x => u ρ fun xs => P (x :: xs)
section
variable {X : Cx} {pos : Pos} {a : Expr} {ta : PT0}
theorem dv_e (h : DE X a ta) : DV X a (vE ta) := PE.weak h fun σ H Q ⟨r, G, ρ, P, E, p, q⟩ => ⟨r, G, ρ, _, E, p, fun v d G1 H1 p1 W1 R1 => q v (.d d) G1 H1 p1 W1 R1⟩
theorem dv_row (i : Nat) {x : Str} (hN : X.N[i]? = some x := by rfl) (hv : Vis X.env.scope x := by first | exact Or.inl rfl | exact Or.inr (Or.inl rfl) | exact Or.inr (Or.inr rfl)) (hd : (x == ("__debug__" : Str)) = false := by decide)
    (hcd : (x == ("__classdict__" : Str)) = false := by decide) : DV X (.Name x pos) (vRow i) := PE.weak (pe_var hN hv hd hcd) fun σ H Q ⟨r, G, ρ, P, E, ⟨e, p⟩, q⟩ => by
  obtain ⟨o, h1, a, rfl, h2⟩ := E.slot i _ e
  exact ⟨.ref a, h1, q _ .row G H p E.st.grow ⟨a, rfl, h2⟩⟩
theorem dv_scr (i : Nat) {x : Str} (hN : X.N[i]? = some x := by rfl) (hv : Vis X.env.scope x := by first | exact Or.inl rfl | exact Or.inr (Or.inl rfl) | exact Or.inr (Or.inr rfl)) (hd : (x == ("__debug__" : Str)) = false := by decide)
    (hcd : (x == ("__classdict__" : Str)) = false := by decide) : DV X (.Name x pos) (vScr i) := PE.weak (pe_var hN hv hd hcd) fun σ H Q ⟨r, G, ρ, P, E, ⟨ns, e, p⟩, q⟩ => by
  obtain ⟨o, h1, a, rfl, h2⟩ := E.slot i _ e
  exact ⟨.ref a, h1, q _ (.scr ns) G H p E.st.grow ⟨a, rfl, h2⟩⟩
theorem das_nil : DAs X [] vNil := PA.weak pa_nil fun σ H Q ⟨r, G, ρ, P, E, p, q⟩ => q [] [] G H p E.st.grow .nil
theorem das_cons {es : List Expr} {t : PTV} {u : PTAs} (ha : DV X a t) (hr : DAs X es u) (hs : starEach (a :: es) X.env = (false, eval a X.env) :: starEach es X.env := by rfl) : DAs X (a :: es) (vCons t u) :=
  PA.weak (pa_cons ha hr hs) fun σ H Q ⟨r, G, ρ, P, E, p, q⟩ => ⟨r, G, ρ, _, E, p, fun v x G1 H1 p1 W1 R1 => ⟨r, G1, ρ, _, E.grow W1, p1, fun vs xs G2 H2 p2 W2 R2 => q (v :: vs) (x :: xs) G2 H2 p2 (W1.trans W2) (.cons (R1.mono W2.g) R2)⟩⟩
end

/-! ### a def's promise by what its arguments say -/
abbrev PF := List PV → (Dt → Prop) → Prop
def liftF (K : Fg) (F : PF) : Sp := fun vs H Q _ => ∃ (r : Option Addr) (G : Hp) (as : List PV) (P : Dt → Prop), Start K r G H ∧ Args K r G vs as ∧ F as P ∧ ∀ v d G' H', P d → Grow K r G H G' H' → Rep K G' v d → Q v H'
def dCall (F : PF) (t : PTAs) : PT0 := fun ρ P => t ρ fun as => F as P
section
variable {X : Cx} {k : Nat} {f : Addr} {fd : FuncData} {ps : List Str} {F : PF} {x : Str} {p pos : Pos} {e : Expr} {es : List Expr} {t : PTAs}
theorem de_call (Fk : FnOk X.prog X.w X.K X.mg X.base CX0 k f fd ps (liftF X.K F)) (hr : Room k X.A) (hm : X.mg x = some (.ref f)) (hk : PySem.W.keepIn X.K (.ref f) = true) (hb : Binds X.K fd ps []) (ha : DAs X (e :: es) t) (hg : Gl X x := by rfl)
    (hdb : (x == ("__debug__" : Str)) = false := by decide) (he : starEach (e :: es) X.env = (false, eval e X.env) :: starEach es X.env := by rfl) (hpl : (backTo pos (starEach es X.env)).any (·.1) = false := by rfl) :
    DE X (.Call (.Name x p) (e :: es) [] pos) (dCall F t) := PE.weak (pe_call Fk hr hg hm hk hb .nil pass0 ha hdb he hpl) fun σ H Q ⟨r, G, ρ, P, E, p, q⟩ => ⟨r, G, ρ, _, E, p, fun vs as G1 H1 p1 W1 R1 => by
  show liftF X.K F (vs ++ []) H1 Q E0
  rw [List.append_nil]
  exact ⟨r, G1, as, P, W1.start E.st, R1, p1, fun v d G' H' p2 W2 R2 => q v d G' H' p2 (W1.trans W2) R2⟩⟩
end

/-! ### statements -/
structure PEnds where
  nx : List PV → Prop
  rt : Dt → Prop
  bk : List PV → Prop := fun _ => False
  ct : List PV → Prop := fun _ => False
abbrev PTS := PEnds → List PV → Prop
structure EnvS (K : Fg) (r0 : Option Addr) (G0 H0 : Hp) (r : Option Addr) (G H : Hp) (σ : L2.St) (ρ : List PV) : Prop where
  env : EnvR K r G H σ ρ
  gr : Grow K r0 G0 H0 G H
  rr : r = r0 ∨ ∃ a, r = some a ∧ H0 a = none
  rh : ∀ a, r0 = some a → ∃ o, H0 a = some o
  yg : ∀ (i : Nat) (a : Addr) (x : Dt), ρ[i]? = some (.own x) → σ[i]? = some (some (.ref a)) → H0 a = none
  yo : ∀ (i : Nat) (C a : Addr) (fs : List (Str × Fv)), ρ[i]? = some (.obj C a fs) → ∀ b ∈ a :: fps fs, H0 b = none
structure Post (K : Fg) (r0 : Option Addr) (G0 H0 : Hp) (P : PEnds) (Dn : Ends) : Prop where
  nx : ∀ r σ ρ G H, P.nx ρ → EnvS K r0 G0 H0 r G H σ ρ → Dn.nx σ H
  bk : ∀ r σ ρ G H, P.bk ρ → EnvS K r0 G0 H0 r G H σ ρ → Dn.bk σ H
  ct : ∀ r σ ρ G H, P.ct ρ → EnvS K r0 G0 H0 r G H σ ρ → Dn.ct σ H
  rt : ∀ v d G H, P.rt d → Grow K r0 G0 H0 G H → Rep K G v d → Dn.rt v H
def liftS (K : Fg) (t : PTS) : TS := fun Dn σ H => ∃ (r0 : Option Addr) (G0 H0 : Hp) (r : Option Addr) (G : Hp) (ρ : List PV) (P : PEnds), EnvS K r0 G0 H0 r G H σ ρ ∧ t P ρ ∧ Post K r0 G0 H0 P Dn
def DS (X : Cx) (st : Stmt) (t : PTS) : Prop := PS X st (liftS X.K t)
def DSs (X : Cx) (st : List Stmt) (t : PTS) : Prop := PSs X st (liftS X.K t)
section
variable {K : Fg} {r0 r : Option Addr} {G0 H0 G H G' H' : Hp} {σ σ' : L2.St} {ρ ρ' : List PV}
theorem EnvS.grown (E : EnvS K r0 G0 H0 r G H σ ρ) (W : Grow K r G H G' H') : Grow K r0 G0 H0 G' H' := by
  rcases E.rr with e | ⟨a, ea, ha⟩
  · subst e
    exact E.gr.trans W
  · subst ea
    have ne : ∀ b o, H0 b = some o → some a ≠ some b := fun b o hb z => by
      cases z; rw [ha] at hb; cases hb
    refine ⟨E.gr.g.trans W.g, fun b o n m hb => W.h b o (ne b o hb) (E.gr.h b o n hb m) m, W.gh, fun b o hb n => ?_, fun b z => ?_, E.gr.t.trans W.t, fun b ps e => E.gr.nt b ps (W.nt b ps e)⟩
    · obtain ⟨o', hb'⟩ := E.gr.there hb
      exact W.y b o' hb' (E.gr.y b o hb n)
    · obtain ⟨o, hb⟩ := E.rh b z
      have q := E.gr.row b z
      obtain ⟨_, _, _, _, _, h1, _⟩ := id q
      exact q.at W.g ((W.h b _ (ne b o hb) h1).trans h1.symm)
theorem EnvS.grow (E : EnvS K r0 G0 H0 r G H σ ρ) (W : Grow K r G H G' H') : EnvS K r0 G0 H0 r G' H' σ ρ := ⟨E.env.grow W, E.grown W, E.rr, E.rh, E.yg, E.yo⟩
theorem EnvS.sets {js : List Nat} (E : EnvS K r0 G0 H0 r G H σ ρ) (S : Sets js σ ρ σ' ρ') (E' : EnvR K r G H σ' ρ') : EnvS K r0 G0 H0 r G H σ' ρ' := ⟨E', E.gr, E.rr, E.rh, fun i a x e1 e2 => by
  by_cases hi : i ∈ js
  · exact absurd e1 (S.d i x hi)
  · rw [(S.other i hi).1] at e2
    rw [(S.other i hi).2] at e1
    exact E.yg i a x e1 e2, fun i C a fs e => by
  by_cases hi : i ∈ js
  · exact absurd e (S.o i C a fs hi)
  · rw [(S.other i hi).2] at e
    exact E.yo i C a fs e⟩
end
section
variable {X : Cx} {st : Stmt} {rest body orelse : List Stmt} {t u : PTS} {e tg iter c : Expr} {te : PT0} {pos : Pos}
def sNext : PTS := fun P ρ => P.nx ρ
def sSeq (t u : PTS) : PTS := fun P ρ => t { P with nx := u P } ρ
theorem dss_nil : DSs X [] sNext := PSs.weak pss_nil fun Dn σ H ⟨r0, G0, H0, r, G, ρ, P, E, p, q⟩ => q.nx _ _ _ _ _ p E
theorem dss_cons (h1 : DS X st t) (h2 : DSs X rest u) : DSs X (st :: rest) (sSeq t u) := PSs.weak (pss_cons h1 h2) fun Dn σ H ⟨r0, G0, H0, r, G, ρ, P, E, p, q⟩ =>
  ⟨r0, G0, H0, r, G, ρ, _, E, p, ⟨fun r' σ' ρ' G' H' p' E' => ⟨r0, G0, H0, r', G', ρ', P, E', p', q⟩, q.bk, q.ct, q.rt⟩⟩
theorem dss_one (h1 : DS X st t) : DSs X [st] t := pss_one h1
theorem ds_pass : DS X (.Pass pos) sNext := PS.weak ps_pass fun Dn σ H ⟨r0, G0, H0, r, G, ρ, P, E, p, q⟩ => q.nx _ _ _ _ _ p E
def sBreak : PTS := fun P ρ => P.bk ρ
def sCont : PTS := fun P ρ => P.ct ρ
theorem ds_break : DS X (.Break pos) sBreak := PS.weak ps_break fun Dn σ H ⟨r0, G0, H0, r, G, ρ, P, E, p, q⟩ => q.bk _ _ _ _ _ p E
theorem ds_continue : DS X (.Continue pos) sCont := PS.weak ps_continue fun Dn σ H ⟨r0, G0, H0, r, G, ρ, P, E, p, q⟩ => q.ct _ _ _ _ _ p E
def sNever : PTS := fun _ _ => False
theorem ds_never : DS X st sNever := PS.weak ps_never fun Dn σ H ⟨r0, G0, H0, r, G, ρ, P, E, p, q⟩ => p
theorem ds_doc {x j pos'} : DS X (.Expr (.Constant (.str x) j pos) pos') sNext := PS.weak ps_doc fun Dn σ H ⟨r0, G0, H0, r, G, ρ, P, E, p, q⟩ => q.nx _ _ _ _ _ p E
def sDrop (te : PT0) : PTS := fun P ρ => te ρ fun _ => P.nx ρ
theorem ds_expr (he : DE X e te) (hs : swapsWith e none pos.line X.env = pure false := by rfl) : DS X (.Expr e pos) (sDrop te) := PS.weak (ps_expr he hs) fun Dn σ H ⟨r0, G0, H0, r, G, ρ, P, E, p, q⟩ =>
  ⟨r, G, ρ, _, E.env, p, fun v d G' H' p' W R => q.nx _ _ _ _ _ p' (E.grow W)⟩
def sIf (c : PTT) (t u : PTS) : PTS := fun P ρ => c ρ fun k => if k = true then t P ρ else u P ρ
theorem ds_if {tc : PTT} (hc : DT X c tc) (ha : DSs X body t) (hb : DSs X orelse u) : DS X (.If c body orelse pos) (sIf tc t u) := PS.weak (ps_if hc ha hb) fun Dn σ H ⟨r0, G0, H0, r, G, ρ, P, E, p, q⟩ =>
  ⟨r, G, ρ, _, E.env, p, fun k G' H' p' W => by
    cases k with
    | true => exact ⟨r0, G0, H0, r, G', ρ, P, E.grow W, p', q⟩
    | false => exact ⟨r0, G0, H0, r, G', ρ, P, E.grow W, p', q⟩⟩
/-- target = value, the value frozen -/
def sAsg (te : PT0) (g : PTG) : PTS := fun P ρ => te ρ fun x => g x ρ P.nx
theorem ds_asg {js : List Nat} {g : PTG} (he : DE X e te) (hg : DG X tg js g) (hs : swapsWithSole [tg] e pos.line X.env = pure false := by rfl) (hw : swappedStores [tg] e X.env = pure none := by rfl)
    (h1 : (assignEach [tg] X.env).map (·.2) = [assign tg X.env] := by rfl) : DS X (.Assign [tg] e pos) (sAsg te g) := PS.weak (ps_asg he hg hs hw h1) fun Dn σ H ⟨r0, G0, H0, r, G, ρ, P, E, p, q⟩ =>
  ⟨r, G, ρ, _, E.env, p, fun v x G' H' p' W R => ⟨r, G', ρ, x, _, E.env.grow W, R, p', fun σ' ρ' p2 E2 S2 => q.nx _ _ _ _ _ p2 ((E.grow W).sets S2 E2)⟩⟩
theorem ds_set (i : Nat) {x : Str} {pos' : Pos} (hN : X.N.Nodup) (he : DE X e te) (hi : X.N[i]? = some x := by rfl) (hx : Loc X.env.scope x := by first | exact Or.inl rfl | exact Or.inr rfl) (hs : swapsWith e (some (.Name x pos')) pos.line X.env = pure false := by rfl) (hf : X.fn x = true ∨ X.env.scope.names.lookup x = some .local := by first | exact .inl rfl | exact .inr rfl) :
    DS X (.Assign [.Name x pos'] e pos) (sAsg te (aName i)) := PS.weak (ps_set hN hi hx he hs hf) fun Dn σ H ⟨r0, G0, H0, r, G, ρ, P, E, p, q⟩ =>
  ⟨r, G, ρ, _, E.env, p, fun v x G' H' p' W R => q.nx _ _ _ _ _ p' ((E.grow W).sets (js := [i]) ⟨fun k hk => by
    have : i ≠ k := fun z => hk (by simp [z])
    exact ⟨List.getElem?_set_ne this, List.getElem?_set_ne this⟩, by simp, fun k y hk => by
    have : k = i := by simpa using hk
    subst this
    rw [List.getElem?_set]
    simp only [if_true]
    split <;> simp, fun k C a fs hk => by
    have : k = i := by simpa using hk
    subst this
    rw [List.getElem?_set]
    simp only [if_true]
    split <;> simp⟩ ((E.env.grow W).set R))⟩

/-! ### return: what is one's own is frozen -/
def frz : PV → PV
  | .own x => .d x
  | p => p
open Classical in
/-- the frozen heap with all that is one's own -/
noncomputable def allG (G H : Hp) (σ : L2.St) (ρ : List PV) : Hp := fun b => if ∃ (i : Nat) (x : Dt), ρ[i]? = some (.own x) ∧ σ[i]? = some (some (.ref b)) then H b else G b
def OwnAt (σ : L2.St) (ρ : List PV) (b : Addr) : Prop := ∃ (i : Nat) (x : Dt), ρ[i]? = some (.own x) ∧ σ[i]? = some (some (.ref b))
def IsDc (H : Hp) (d : Addr) : Prop := (∃ kvs, H d = some (.dK kvs)) ∨ ∃ kvs, H d = some (.dT kvs)
/-- some dicts are known from here on: they are read, never written -/
structure Known (ds : List Addr) (H H' : Hp) : Prop where
  out : ∀ b, b ∉ ds → H' b = H b
  inn : ∀ b, b ∈ ds → ∃ od u, H b = some u ∧ H' b = some (.frz od u)
theorem lock_all {X : Cx} {pins : List (Addr × Obj)} {σ : L2.St} {H : Hp} {s : Shared} (I : Inv X pins σ H s) : ∀ ds : List Addr, (∀ d ∈ ds, IsDc H d) → ∃ H', Inv X pins σ H' s ∧ Known ds H H'
  | [], _ => ⟨H, I, fun _ _ => rfl, fun b h => by simp at h⟩
  | d :: ds, h => by
    obtain ⟨H1, I1, k1, k2⟩ := lock_all I ds fun b hb => h b (List.mem_cons_of_mem _ hb)
    by_cases hd : d ∈ ds
    · exact ⟨H1, I1, fun b hb => k1 b fun z => hb (List.mem_cons_of_mem _ z), fun b hb => by
        rcases List.mem_cons.mp hb with rfl | hb
        · exact k2 b hd
        · exact k2 b hb⟩
    · obtain ⟨u, e, mu⟩ : ∃ u, H d = some u ∧ Mut (some u) := by
        rcases h d (by simp) with ⟨kvs, e⟩ | ⟨kvs, e⟩
        · exact ⟨_, e, trivial⟩
        · exact ⟨_, e, trivial⟩
      obtain ⟨od, I2⟩ := I1.lock (d := d) (u := u) ((k1 d hd).trans e) mu
      refine ⟨_, I2, fun b hb => ?_, fun b hb => ?_⟩
      · rw [List.mem_cons, not_or] at hb
        rw [upd_ne hb.1]
        exact k1 b hb.2
      · by_cases z : b = d
        · subst z
          exact ⟨od, u, e, upd_same⟩
        · rw [upd_ne z]
          rcases List.mem_cons.mp hb with y | hb
          · exact absurd y z
          · exact k2 b hb
theorem TbGo.known {K : Fg} {ds : List Addr} {H H' : Hp} (k : Known ds H H') (hd : ∀ d ∈ ds, IsDc H d) : TbGo K H H' := by
  have ne : ∀ {b u}, H b = some u → ((∃ ps, u = .tbl ps) ∨ ∃ φ, u = .ext φ) → b ∉ ds := fun {b u} e z q => by
    rcases hd b q with ⟨kvs, h⟩ | ⟨kvs, h⟩ <;> rw [h] at e <;> cases e <;> rcases z with ⟨_, z⟩ | ⟨_, z⟩ <;> cases z
  refine ⟨fun P t => ?_, fun P ps h => ⟨ps, (k.out _ (ne h (.inl ⟨ps, rfl⟩))).trans h⟩, fun b φ h => (k.out _ (ne h (.inr ⟨φ, rfl⟩))).trans h⟩
  obtain ⟨ps, h1, h2, h3⟩ := t
  refine ⟨ps, (k.out _ (ne h1 (.inl ⟨ps, rfl⟩))).trans h1, h2, fun pos cv hc => ?_⟩
  obtain ⟨c, e1, e2⟩ := h3 pos cv hc
  exact ⟨c, e1, (k.out _ (ne e2 (.inr ⟨_, rfl⟩))).trans e2⟩
theorem pe_known {X : Cx} {e : Expr} {t : TE} (h : PE X e t) : PE X e (fun σ H Q => ∃ ds : List Addr, (∀ d ∈ ds, IsDc H d) ∧ ∀ H', Known ds H H' → t σ H' Q) :=
  ⟨fun pins s σ H Q I ⟨ds, hd, q⟩ => by
    obtain ⟨H', I', k⟩ := lock_all I ds hd
    exact h.run pins s σ H' Q I' (q H' k)⟩
open Classical in
theorem own_list (H : Hp) (σ : L2.St) (ρ : List PV) : ∃ ds : List Addr, ∀ b, b ∈ ds ↔ OwnAt σ ρ b ∧ IsDc H b := by
  refine ⟨(σ.filterMap fun o => match o with | some (.ref a) => if OwnAt σ ρ a ∧ IsDc H a then some a else none | _ => none), fun b => ?_⟩
  rw [List.mem_filterMap]
  constructor
  · rintro ⟨o, _, e⟩
    split at e
    · split at e
      · rename_i h
        cases e
        exact h
      · cases e
    · cases e
  · rintro ⟨h1, h2⟩
    obtain ⟨i, x, e1, e2⟩ := id h1
    exact ⟨_, List.mem_of_getElem? e2, by simp only [if_pos (And.intro h1 h2)]⟩
theorem OwnR.frozen {K : Fg} {G G' H H' : Hp} {a : Addr} {d : Dt} {ds : List Addr} (h : OwnR K G H a d) (g : Same G G') (k : Known ds H H') (hd : IsDc H a → a ∈ ds) (hn : a ∈ ds → IsDc H a) (e : G' a = H' a) : Rep K G' (.ref a) d := by
  cases h with
  | lst h r =>
    have n : a ∉ ds := fun z => by
      rcases hn z with ⟨kvs, h1⟩ | ⟨kvs, h1⟩ <;> rw [h] at h1 <;> cases h1
    exact .lst ((e.trans (k.out a n)).trans h) (r.mono g)
  | dic h r =>
    obtain ⟨od, u, h1, h2⟩ := k.inn a (hd (.inl ⟨_, h⟩))
    rw [h] at h1; cases h1
    exact .dic (e.trans h2) (r.mono g)
  | dicT h r =>
    obtain ⟨od, u, h1, h2⟩ := k.inn a (hd (.inr ⟨_, h⟩))
    rw [h] at h1; cases h1
    exact .dicT (e.trans h2) (r.mono g)
theorem EnvS.freezeAll {K : Fg} {r0 r : Option Addr} {G0 H0 G H H' : Hp} {σ : L2.St} {ρ : List PV} {ds : List Addr} (E : EnvS K r0 G0 H0 r G H σ ρ) (hds : ∀ b, b ∈ ds ↔ OwnAt σ ρ b ∧ IsDc H b) (k : Known ds H H') : ∃ G', EnvS K r0 G0 H0 r G' H' σ (ρ.map frz) := by
  have gnone : ∀ b, OwnAt σ ρ b → G b = none := fun b ⟨i, x, e1, e2⟩ => by
    obtain ⟨c, e3, gn, _⟩ := E.env.getO e1
    rw [e2] at e3; cases e3
    exact gn
  have rnone : ∀ b, OwnAt σ ρ b → r ≠ some b := fun b ⟨i, x, e1, e2⟩ => by
    obtain ⟨c, e3, _, rn, _⟩ := E.env.getO e1
    rw [e2] at e3; cases e3
    exact rn
  have ynone : ∀ b, OwnAt σ ρ b → H0 b = none := fun b ⟨i, x, e1, e2⟩ => E.yg i b x e1 e2
  have out : ∀ b, ¬ OwnAt σ ρ b → H' b = H b := fun b n => k.out b fun z => n ((hds b).mp z).1
  have g : Same G (allG G H' σ ρ) := fun b o e => by
    unfold allG
    rw [if_neg]
    · exact e
    · intro z
      rw [gnone b z] at e
      cases e
  have gh : Same (allG G H' σ ρ) H' := fun b o e => by
    unfold allG at e
    by_cases h : ∃ (i : Nat) (x : Dt), ρ[i]? = some (.own x) ∧ σ[i]? = some (some (.ref b))
    · rw [if_pos h] at e
      exact e
    · rw [if_neg h] at e
      rw [out b h]
      exact E.env.st.gh _ _ e
  have nt : ∀ b ps, allG G H' σ ρ b = some (.tbl ps) → G b = some (.tbl ps) := fun b ps e => by
    unfold allG at e
    by_cases z : ∃ (i : Nat) (x : Dt), ρ[i]? = some (.own x) ∧ σ[i]? = some (some (.ref b))
    · rw [if_pos z] at e
      exfalso
      obtain ⟨i, x, e1, e2⟩ := id z
      obtain ⟨a, h1, _, _, h2⟩ := E.env.getO e1
      rw [e2] at h1
      cases h1
      obtain ⟨o, ho, no⟩ := h2.some
      by_cases hb : b ∈ ds
      · obtain ⟨od, u, k1, k2⟩ := k.inn b hb
        rw [k2] at e; cases e
      · rw [k.out b hb, ho] at e
        exact no.1 ps (Option.some.inj e)
    · rw [if_neg z] at e; exact e
  have frzO : ∀ {p : PV} {C a : Addr} {fs : List (Str × Fv)}, frz p = .obj C a fs → p = .obj C a fs := fun {p} {C a fs} e => by
    cases p <;> simp [frz] at e ⊢ <;> exact e
  have obAt : ∀ {i : Nat} {C a : Addr} {fs : List (Str × Fv)}, (ρ.map frz)[i]? = some (.obj C a fs) → ρ[i]? = some (.obj C a fs) := fun {i C a fs} e => by
    rw [List.getElem?_map] at e
    cases ep : ρ[i]? with
    | none => rw [ep] at e; cases e
    | some p0 =>
      rw [ep] at e
      rw [frzO (Option.some.inj e)]
  have obOut : ∀ {i : Nat} {C a : Addr} {fs : List (Str × Fv)}, ρ[i]? = some (.obj C a fs) → ∀ b ∈ a :: fps fs, ¬ OwnAt σ ρ b := fun {i C a fs} e b hb ⟨j, x, e1, e2⟩ => (E.env.apart i j C a fs e).1 x e1 b hb e2
  refine ⟨allG G H' σ ρ, ⟨⟨⟨gh, fun a e => ?_, fun b ps e => E.env.st.nt b ps (nt b ps e)⟩, by simp [E.env.len], fun i p e => ?_, fun i j a x y e => ?_, fun i j C a fs e => ⟨fun x ex => ?_, fun D c gs eg => (E.env.apart i j C a fs (obAt e)).2 D c gs (obAt eg)⟩⟩, ⟨E.gr.g.trans g, fun b o n m e => ?_, gh, fun b o e n => ?_, fun a e => ?_, E.gr.t.trans (.known k fun d hd => ((hds d).mp hd).2), fun b ps e => E.gr.nt b ps (nt b ps e)⟩, E.rr, E.rh, fun i a x e => ?_, fun i C a fs e => E.yo i C a fs (obAt e)⟩⟩
  · obtain ⟨h1, h2⟩ := E.env.st.row a e
    refine ⟨?_, h2.at g (out a fun z => rnone a z e)⟩
    unfold allG
    rw [if_neg]
    · exact h1
    · intro z
      exact rnone a z e
  · rw [List.getElem?_map] at e
    cases ep : ρ[i]? with
    | none => rw [ep] at e; cases e
    | some p0 =>
      rw [ep] at e
      have e : frz p0 = p := Option.some.inj e
      subst e
      obtain ⟨o, h1, h2⟩ := E.env.slot i p0 ep
      refine ⟨o, h1, ?_⟩
      cases p0 with
      | un => trivial
      | d x =>
        obtain ⟨v, rfl, h2⟩ := h2
        exact ⟨v, rfl, h2.mono g⟩
      | own x =>
        obtain ⟨a, rfl, ga, ne, h2⟩ := h2
        refine ⟨.ref a, rfl, h2.frozen g k (fun hk => (hds a).mpr ⟨⟨i, x, ep, h1⟩, hk⟩) (fun z => ((hds a).mp z).2) ?_⟩
        unfold allG
        rw [if_pos ⟨i, x, ep, h1⟩]
      | row => exact h2
      | scr ns =>
        obtain ⟨a, rfl, h2⟩ := h2
        exact ⟨a, rfl, g.seq h2⟩
      | rng lo hi =>
        obtain ⟨a, rfl, h2⟩ := h2
        exact ⟨a, rfl, g _ _ h2⟩
      | ins C fs =>
        obtain ⟨a, dx, vs, rfl, h2, h3⟩ := h2
        exact ⟨a, dx, vs, rfl, g _ _ h2, h3.mono g⟩
      | obj C a fs =>
        obtain ⟨rfl, h2, h3⟩ := h2
        refine ⟨rfl, h2.at g fun b hb => out b (obOut ep b hb), fun b hb => ⟨?_, (h3 b hb).2⟩⟩
        unfold allG
        rw [if_neg]
        · exact (h3 b hb).1
        · exact obOut ep b hb
      | fz p => exact fun G2 H2 g2 t2 => h2 G2 H2 (g.trans g2) ((TbGo.known k fun d hd => ((hds d).mp hd).2).trans t2)
  · rw [List.getElem?_map] at e
    cases ep : ρ[i]? with
    | none => rw [ep] at e; cases e
    | some p0 =>
      rw [ep] at e
      cases p0 <;> cases e
  · rw [List.getElem?_map] at ex
    cases ep : ρ[j]? with
    | none => rw [ep] at ex; cases ex
    | some p0 =>
      rw [ep] at ex
      cases p0 <;> cases ex
  · rw [out b fun z => by rw [ynone b z] at e; cases e]
    exact E.gr.h b o n e m
  · unfold allG
    rw [if_neg]
    · exact E.gr.y b o e n
    · intro z
      rw [ynone b z] at e
      cases e
  · refine (E.gr.row a e).at g (out a fun z => ?_)
    obtain ⟨o, q⟩ := E.rh a e
    rw [ynone a z] at q; cases q
  · rw [List.getElem?_map] at e
    cases ep : ρ[i]? with
    | none => rw [ep] at e; cases e
    | some p0 =>
      rw [ep] at e
      cases p0 <;> cases e
def sRet (te : PT0) : PTS := fun P ρ => te (ρ.map frz) P.rt
theorem ds_ret (he : DE X e te) : DS X (.Return (some e) pos) (sRet te) := PS.weak (ps_ret (pe_known he)) fun Dn σ H ⟨r0, G0, H0, r, G, ρ, P, E, p, q⟩ => by
  obtain ⟨ds, hds⟩ := own_list H σ ρ
  refine ⟨ds, fun d hd => ((hds d).mp hd).2, fun H' k => ?_⟩
  obtain ⟨G1, E1⟩ := E.freezeAll hds k
  exact ⟨r, G1, _, _, E1.env, p, fun v d G' H' p' W R => q.rt v d G' H' p' (E1.grown W) R⟩
def sRetN : PTS := fun P _ => P.rt .none
theorem ds_retN : DS X (.Return none pos) sRetN := PS.weak ps_retN fun Dn σ H ⟨r0, G0, H0, r, G, ρ, P, E, p, q⟩ => q.rt .non .none G H p E.gr .non
end

/-! ### a def by its body -/
def startP (N : List Str) (as : List PV) : List PV := as ++ List.replicate (N.length - as.length) .un
theorem Args.get {K : Fg} {r : Option Addr} {G : Hp} : ∀ {vs : List V} {as : List PV} {i : Nat} {p : PV}, Args K r G vs as → as[i]? = some p → ∃ v, vs[i]? = some v ∧ ArgR K r G v p
  | _, _, _, _, .nil, e => by simp at e
  | _, _, 0, _, .cons h _, e => by simp at e; subst e; exact ⟨_, rfl, h⟩
  | _, _, i + 1, _, .cons _ t, e => by
    obtain ⟨v, h1, h2⟩ := Args.get (i := i) t (by simpa using e)
    exact ⟨v, by simpa using h1, h2⟩
theorem env_start {K : Fg} {r : Option Addr} {G H : Hp} {N : List Str} {vs : List V} {as : List PV} (S : Start K r G H) (A : Args K r G vs as) : EnvS K r G H r G H (L2.start N vs) (startP N as) := by
  have hl : vs.length = as.length := Paired.length A
  refine ⟨⟨S, by simp [L2.start, startP, hl], fun i p e => ?_, fun i j a x y e => ?_, fun i j C a fs e => ?_⟩, S.grow, .inl rfl, fun a e => by obtain ⟨_, _, _, _, _, _, h, _⟩ := S.row a e; exact ⟨_, h⟩, fun i a x e => ?_, fun i C a fs e => ?_⟩
  · unfold startP at e
    unfold L2.start
    by_cases hi : i < as.length
    · rw [List.getElem?_append_left hi] at e
      obtain ⟨v, h1, h2⟩ := A.get e
      refine ⟨some v, by rw [List.getElem?_append_left (by simpa [hl] using hi), List.getElem?_map, h1]; rfl, ?_⟩
      cases p with
      | un => trivial
      | d x => exact ⟨v, rfl, h2⟩
      | own x => exact h2.elim
      | row => obtain ⟨a, rfl, h2⟩ := h2; exact ⟨a, rfl, h2⟩
      | scr ns => obtain ⟨a, rfl, h2⟩ := h2; exact ⟨a, rfl, h2⟩
      | rng lo hi => exact h2.elim
      | ins C fs => obtain ⟨a, dx, vs, rfl, h2⟩ := h2; exact ⟨a, dx, vs, rfl, h2⟩
      | obj C a fs => exact h2.elim
      | fz p => exact fun G2 H2 g2 _ => h2 G2 H2 g2
    · rw [List.getElem?_append_right (by omega), List.getElem?_replicate] at e
      split at e
      · cases e
        refine ⟨none, ?_, trivial⟩
        rw [List.getElem?_append_right (by simp; omega), List.getElem?_replicate, if_pos (by simpa [hl] using ‹_›)]
      · cases e
  all_goals
    unfold startP at e
    by_cases hi : i < as.length
    · rw [List.getElem?_append_left hi] at e
      obtain ⟨v, h1, h2⟩ := A.get e
      exact h2.elim
    · rw [List.getElem?_append_right (by omega), List.getElem?_replicate] at e
      split at e <;> cases e
section
variable {P : Program} {w : World} {K : Fg} {mg : Str → Option Value} {base : Heap}
theorem fd_ok {x qual : Str} {st : Stmt} {f : Addr} {fd : FuncData} {N ps : List Str} {k : Nat} (F : PF) (Fu : Fun K x qual st f fd) (S : FnScope N ps (defScope st)) (len : ∀ as P, F as P → as.length = ps.length)
    (body : ∀ (cdv : Value) (A : Around) (outer : List Env) (s : Shared) (H : Hp) (E : XK), Room k (A.deeper (envOfC qual (defScope st) s.heap.objs.size f cdv)) →
      ∃ t, DSs (cxOf CX0 P w K mg base N qual (defScope st) f cdv A outer s H E).nox (defBody st) t ∧ ∀ as Q, F as Q → t { nx := fun _ => Q .none, rt := Q } (startP N as)) : FnOk P w K mg base CX0 (k + 1) f fd ps (liftF K F) := by
  refine Fu.ok S (fun vs H Q E ⟨r, G, as, P, _, A, p, _⟩ => (Paired.length A).trans (len as P p)) fun cdv A outer s H vs Q E hr ⟨r, G, as, P, S1, R, p, q⟩ => ?_
  obtain ⟨t, ht, hp⟩ := body cdv A outer s H E hr
  exact ⟨liftS K t, ht, r, G, H, r, G, startP N as, _, env_start S1 R, hp as P p, ⟨fun r' σ' ρ' G' H' p' E' => q .non .none G' H' p' E'.gr .non, fun _ _ _ _ _ z => z.elim, fun _ _ _ _ _ z => z.elim, fun v d G' H' p' W R => q v d G' H' p' W R⟩⟩
end
end PD
namespace PD
open PySem PySem.Spec PyProof.Rows L2
theorem dss_never {X : Cx} {sts : List Stmt} : DSs X sts sNever := PSs.weak pss_never fun Dn σ H ⟨r0, G0, H0, r, G, ρ, P, E, p, q⟩ => p
/-- a def that is never called -/
theorem fn_never {P : Program} {w : World} {K : Fg} {mg : Str → Option Value} {base : Heap} {k : Nat} {f : Addr} {fd : FuncData} {ps : List Str} : FnOk P w K mg base CX0 k f fd ps (liftF K fun _ _ => False) :=
  ⟨fun vs H Q E ⟨_, _, _, _, _, _, p, _⟩ => p.elim, fun A outer s H args us vs Q E hr e hb hv ⟨_, _, _, _, _, _, p, _⟩ => p.elim⟩
end PD
namespace PD
open PySem PySem.Spec PyProof.Rows L2

section
variable {K : Fg} {r0 r : Option Addr} {G0 H0 G H G' H' : Hp} {σ σ' : L2.St} {ρ ρ' : List PV}
theorem get_set_own {ρ : List PV} {i j : Nat} {p : PV} {x : Dt} (e : (ρ.set i p)[j]? = some (.own x)) : (j = i ∧ p = .own x) ∨ (j ≠ i ∧ ρ[j]? = some (.own x)) := by
  by_cases h : j = i
  · subst h
    rw [List.getElem?_set] at e
    simp only [if_true] at e
    split at e
    · cases e; exact .inl ⟨rfl, rfl⟩
    · cases e
  · rw [List.getElem?_set_ne (Ne.symm h)] at e
    exact .inr ⟨h, e⟩
theorem get_set_obj {ρ : List PV} {i j : Nat} {p : PV} {C a : Addr} {fs : List (Str × Fv)} (e : (ρ.set i p)[j]? = some (.obj C a fs)) : (j = i ∧ p = .obj C a fs) ∨ (j ≠ i ∧ ρ[j]? = some (.obj C a fs)) := by
  by_cases h : j = i
  · subst h
    rw [List.getElem?_set] at e
    simp only [if_true] at e
    split at e
    · cases e; exact .inl ⟨rfl, rfl⟩
    · cases e
  · rw [List.getElem?_set_ne (Ne.symm h)] at e
    exact .inr ⟨h, e⟩
theorem set_not_obj {ρ : List PV} {i j : Nat} {p : PV} {C a : Addr} {fs : List (Str × Fv)} (e : (ρ.set i p)[j]? = some (.obj C a fs)) (n : ∀ C a fs, p ≠ .obj C a fs) : j ≠ i ∧ ρ[j]? = some (.obj C a fs) := by
  rcases get_set_obj e with ⟨_, h⟩ | h
  · exact absurd h (n _ _ _)
  · exact h
/-- a young object becomes one's own, in slot i -/
theorem EnvS.take {p : Addr} {o : HO} {x : Dt} {i : Nat} (E : EnvS K r0 G0 H0 r G H σ ρ) (hp : H p = none) (ho : OwnR K G (upd H p o) p x) (hi : i < ρ.length) : EnvS K r0 G0 H0 r G (upd H p o) (σ.set i (some (.ref p))) (ρ.set i (.own x)) := by
  have S := E.env.st
  have gp : G p = none := S.gh.free hp
  have rp : r ≠ some p := S.rowNe hp
  have W := S.lay0 (o := o) hp
  have E1 := E.grow W
  refine ⟨⟨E1.env.st, by simp [E.env.len], fun j q e => ?_, fun j k a x' y' e1 e2 e3 e4 => ?_, fun j k C a fs e => ?_⟩, E1.gr, E.rr, E.rh, fun j a y e1 e2 => ?_, fun j C a fs e => E.yo j C a fs (set_not_obj e fun _ _ _ => by simp).2⟩
  · by_cases hj : j = i
    · subst hj
      rw [List.getElem?_set_self hi] at e
      cases e
      exact ⟨_, List.getElem?_set_self (by rw [E.env.len]; exact hi), p, rfl, gp, rp, ho⟩
    · rw [List.getElem?_set_ne (Ne.symm hj)] at e ⊢
      exact E1.env.slot j q e
  · have other : ∀ {j : Nat} {z : Dt}, j ≠ i → ρ[j]? = some (.own z) → σ[j]? = some (some (.ref a)) → a ≠ p := fun {j z} hj e1 e2 => by
      obtain ⟨b, h1, _, _, h2⟩ := E.env.getO e1
      rw [e2] at h1
      cases h1
      obtain ⟨o, h3, _⟩ := h2.some
      exact ne_of_none h3 hp
    have mine : ∀ {j : Nat}, j = i → (σ.set i (some (V.ref p)))[j]? = some (some (.ref a)) → a = p := fun {j} hj e => by
      subst hj
      rw [List.getElem?_set_self (by rw [E.env.len]; exact hi)] at e
      cases e; rfl
    rcases get_set_own e1 with ⟨h1, _⟩ | ⟨h1, f1⟩
    · rcases get_set_own e2 with ⟨h2, _⟩ | ⟨h2, f2⟩
      · rw [h1, h2]
      · rw [List.getElem?_set_ne (Ne.symm h2)] at e4
        exact absurd (mine h1 e3) (other h2 f2 e4)
    · rcases get_set_own e2 with ⟨h2, _⟩ | ⟨h2, f2⟩
      · rw [List.getElem?_set_ne (Ne.symm h1)] at e3
        exact absurd (mine h2 e4) (other h1 f1 e3)
      · rw [List.getElem?_set_ne (Ne.symm h1)] at e3
        rw [List.getElem?_set_ne (Ne.symm h2)] at e4
        exact E.env.dist j k a x' y' f1 f2 e3 e4
  · obtain ⟨j1, j2⟩ := set_not_obj e fun _ _ _ => by simp
    refine ⟨fun x ex b hb => ?_, fun D c gs eg => (E.env.apart j k C a fs j2).2 D c gs (set_not_obj eg fun _ _ _ => by simp).2⟩
    rcases get_set_own ex with ⟨h1, _⟩ | ⟨h1, f1⟩
    · subst h1
      rw [List.getElem?_set_self (by rw [E.env.len]; exact hi)]
      intro z
      cases z
      obtain ⟨o, _, _, q, _⟩ := E.env.slot j _ j2
      obtain ⟨u, hu, _⟩ := q.there p hb
      rw [hp] at hu; cases hu
    · rw [List.getElem?_set_ne (Ne.symm h1)]
      exact (E.env.apart j k C a fs j2).1 x f1 b hb
  · rcases get_set_own e1 with ⟨h1, _⟩ | ⟨h1, f1⟩
    · subst h1
      rw [List.getElem?_set_self (by rw [E.env.len]; exact hi)] at e2
      cases e2
      cases q : H0 p with
      | none => rfl
      | some u =>
        exfalso
        obtain ⟨o', h'⟩ := E.gr.there q
        rw [hp] at h'; cases h'
    · rw [List.getElem?_set_ne (Ne.symm h1)] at e2
      exact E.yg j a y f1 e2
/-- what is one's own is changed -/
theorem EnvS.put {a : Addr} {o : HO} {x y : Dt} {i : Nat} (E : EnvS K r0 G0 H0 r G H σ ρ) (e : ρ[i]? = some (.own x)) (ea : σ[i]? = some (some (.ref a))) (ho : OwnR K G (upd H a o) a y) : EnvS K r0 G0 H0 r G (upd H a o) σ (ρ.set i (.own y)) := by
  obtain ⟨b, h1, ga, ra, h2⟩ := E.env.getO e
  rw [ea] at h1
  cases h1
  have hi : i < ρ.length := (List.getElem?_eq_some_iff.mp e).1
  have ya := E.yg i a x e ea
  have rowOk : ∀ c, r = some c → (upd H a o) c = H c := fun c ec => upd_ne fun z => ra (z ▸ ec)
  refine ⟨⟨⟨fun b u q => ?_, fun c ec => ?_, E.env.st.nt⟩, by simp [E.env.len], fun j q eq => ?_, fun j k c x' y' e1 e2 e3 e4 => ?_, fun j k C c fs ej => ?_⟩, ⟨E.gr.g, fun b u n m q => ?_, fun b u q => ?_, E.gr.y, fun c ec => ?_, E.gr.t.trans (.upd (let ⟨_, h3, h4⟩ := h2.some; ne_at h3 h4)), E.gr.nt⟩, E.rr, E.rh, fun j c z e1 e2 => ?_, fun j C c fs ej => E.yo j C c fs (set_not_obj ej fun _ _ _ => by simp).2⟩
  · rw [upd_ne (ne_of_none q ga)]
    exact E.env.st.gh _ _ q
  · obtain ⟨q1, q2⟩ := E.env.st.row c ec
    exact ⟨q1, q2.at (Same.refl _) (rowOk c ec)⟩
  · by_cases hj : j = i
    · subst hj
      rw [List.getElem?_set_self hi] at eq
      cases eq
      exact ⟨_, ea, a, rfl, ga, ra, ho⟩
    · rw [List.getElem?_set_ne (Ne.symm hj)] at eq
      obtain ⟨o', q1, q2⟩ := E.env.slot j q eq
      refine ⟨o', q1, ?_⟩
      cases q with
      | un => trivial
      | d x => exact q2
      | own z =>
        obtain ⟨c, rfl, gc, rc, q3⟩ := q2
        have ne : c ≠ a := fun z' => by
          subst z'
          exact hj (E.env.dist j i c z x eq e q1 ea)
        exact ⟨c, rfl, gc, rc, q3.at (Same.refl _) (upd_ne ne)⟩
      | row => exact q2
      | scr ns => exact q2
      | rng lo hi => exact q2
      | ins C fs => exact q2
      | obj C c fs =>
        obtain ⟨rfl, q3, q4⟩ := q2
        refine ⟨rfl, q3.at (Same.refl _) fun b hb => upd_ne fun z => ?_, q4⟩
        subst z
        exact (E.env.apart j i C c fs eq).1 x e b hb ea
      | fz p => exact fun G2 H2 g2 t2 => q2 G2 H2 g2 (TbGo.trans (.upd (let ⟨_, h3, h4⟩ := h2.some; ne_at h3 h4)) t2)
  · rcases get_set_own e1 with ⟨g1, _⟩ | ⟨g1, f1⟩
    · rcases get_set_own e2 with ⟨g2, _⟩ | ⟨g2, f2⟩
      · rw [g1, g2]
      · subst g1
        exact E.env.dist j k c x y' e f2 e3 e4
    · rcases get_set_own e2 with ⟨g2, _⟩ | ⟨g2, f2⟩
      · subst g2
        exact E.env.dist j k c x' x f1 e e3 e4
      · exact E.env.dist j k c x' y' f1 f2 e3 e4
  · obtain ⟨j1, j2⟩ := set_not_obj ej fun _ _ _ => by simp
    refine ⟨fun z ez b hb => ?_, fun D d gs eg => (E.env.apart j k C c fs j2).2 D d gs (set_not_obj eg fun _ _ _ => by simp).2⟩
    rcases get_set_own ez with ⟨h1, _⟩ | ⟨h1, f1⟩
    · subst h1
      exact (E.env.apart j k C c fs j2).1 x e b hb
    · exact (E.env.apart j k C c fs j2).1 z f1 b hb
  · rw [upd_ne (ne_of_none q ya)]
    exact E.gr.h b u n q m
  · rw [upd_ne (ne_of_none q ga)]
    exact E.gr.gh _ _ q
  · have : c ≠ a := fun z => by
      subst z
      obtain ⟨_, h⟩ := E.rh c ec
      rw [ya] at h; cases h
    exact (E.gr.row c ec).at (Same.refl _) (upd_ne this)
  · rcases get_set_own e1 with ⟨g1, _⟩ | ⟨g1, f1⟩
    · subst g1
      exact E.yg j c x e e2
    · exact E.yg j c z f1 e2
end

section
variable {X : Cx} {st : Stmt} {rest body orelse : List Stmt} {t u tb : PTS} {e tg iter c : Expr} {te ty tv : PT0} {pos pos' : Pos} {es : List Expr}
/-- x = [..], x = [..] * n, x = {}: one's own from here on -/
def sOwnL (i : Nat) (ta : PTA) : PTS := fun P ρ => i < ρ.length ∧ ta ρ fun xs => xs.length ≤ sizeLine ∧ P.nx (ρ.set i (.own (.list xs)))
theorem ds_ownL (i : Nat) {x : Str} {ta : PTA} {p2 : Pos} (hN : X.N.Nodup) (ha : DA X es ta) (hi : X.N[i]? = some x := by rfl) (hx : Loc X.env.scope x := by first | exact Or.inl rfl | exact Or.inr rfl) (hs : swapsWith (.List es p2) (some (.Name x pos')) pos.line X.env = pure false := by rfl)
    (hf : X.fn x = true ∨ X.env.scope.names.lookup x = some .local := by first | exact .inl rfl | exact .inr rfl) : DS X (.Assign [.Name x pos'] (.List es p2) pos) (sOwnL i ta) :=
  PS.weak (ps_set hN hi hx (pe_lst ha) hs hf) fun Dn σ H ⟨r0, G0, H0, r, G, ρ, P, E, ⟨hi, p⟩, q⟩ => ⟨r, G, ρ, _, E.env, p, fun vs xs G' H' p' W R => ⟨by rw [R.length]; exact p'.1, fun c hc =>
    q.nx _ _ _ _ _ p'.2 ((E.grow W).take hc (.lst upd_same R) hi)⟩⟩
def sOwnR (i : Nat) (ta : PTA) (tn : PT0) : PTS := fun P ρ => i < ρ.length ∧ ta ρ fun xs => xs.length ≤ sizeLine ∧ tn ρ fun y => ∃ k, y = .int k ∧ (-(2 ^ 63) ≤ k ∧ k < 2 ^ 63 ∧ xs.length * k.toNat ≤ sizeLine) ∧ P.nx (ρ.set i (.own (.list (List.replicate k.toNat xs).flatten)))
theorem ds_ownR (i : Nat) {x : Str} {ta : PTA} {p2 p3 : Pos} {n : Expr} {tn : PT0} (hN : X.N.Nodup) (ha : DA X es ta) (hn : DE X n tn) (hi : X.N[i]? = some x := by rfl) (hx : Loc X.env.scope x := by first | exact Or.inl rfl | exact Or.inr rfl) (hs : swapsWith (.BinOp (.List es p2) .Mult n p3) (some (.Name x pos')) pos.line X.env = pure false := by rfl)
    (hf : X.fn x = true ∨ X.env.scope.names.lookup x = some .local := by first | exact .inl rfl | exact .inr rfl) : DS X (.Assign [.Name x pos'] (.BinOp (.List es p2) .Mult n p3) pos) (sOwnR i ta tn) :=
  PS.weak (ps_set hN hi hx (pe_op op_rep (pe_lst ha) hn) hs hf) fun Dn σ H ⟨r0, G0, H0, r, G, ρ, P, E, ⟨hi, p⟩, q⟩ => ⟨r, G, ρ, _, E.env, p, fun vs xs G' H' p' W R => ⟨by rw [R.length]; exact p'.1, fun l hl => by
    have E1 := E.grow W
    have W0 := E1.env.st.lay0 (o := .lst vs) hl
    have rl := E1.env.st.rowNe hl
    refine ⟨r, G', ρ, _, E1.env.grow W0, p'.2, fun v y G2 H2 ⟨k, ey, ⟨b1, b2, b3⟩, p2⟩ W2 R2 => ?_⟩
    subst ey
    cases R2
    refine ⟨l, k, vs, rfl, rfl, W2.h l _ rl upd_same, b1, b2, by rw [R.length]; exact b3, fun c hc => ?_⟩
    exact q.nx _ _ _ _ _ p2 (((E1.grow W0).grow W2).take hc (.lst upd_same ((R.mono W2.g).rep _)) hi)⟩⟩
def sOwnK (i : Nat) : PTS := fun P ρ => i < ρ.length ∧ P.nx (ρ.set i (.own (.dict [])))
theorem ds_ownK (i : Nat) {x : Str} {p2 : Pos} (hN : X.N.Nodup) (hi : X.N[i]? = some x := by rfl) (hx : Loc X.env.scope x := by first | exact Or.inl rfl | exact Or.inr rfl) (hs : swapsWith (.Dict [] [] p2) (some (.Name x pos')) pos.line X.env = pure false := by rfl)
    (hf : X.fn x = true ∨ X.env.scope.names.lookup x = some .local := by first | exact .inl rfl | exact .inr rfl) : DS X (.Assign [.Name x pos'] (.Dict [] [] p2) pos) (sOwnK i) :=
  PS.weak (ps_set hN hi hx pe_dnewK hs hf) fun Dn σ H ⟨r0, G0, H0, r, G, ρ, P, E, ⟨hi, p⟩, q⟩ => fun c hc => q.nx _ _ _ _ _ p (E.take hc (.dic upd_same .nil) hi)
/-- x = [.. for ..] on one line -/
theorem ds_setLc (i : Nat) {y : Str} {py : Pos} {elt : Expr} {ifs : List Expr} {scope : Scope} (own : List (Str × Nat)) {js : List Nat} {ti : PTI} {g : PTG} {tt : PTT} {pos spos : Pos} (hc : X.calm = true) (hN : X.N.Nodup) (hi : DI X tg iter ti)
    (hg : ∀ (s : Shared) (H : Hp) (C : Addr) (cl : List (Str × Addr)) (fp : List Addr), DG (X.blk s H scope (compEnvC scope cl C X.env) fp) tg js g) (ht : ∀ (s : Shared) (H : Hp) (C : Addr) (cl : List (Str × Addr)) (fp : List Addr), DTs (X.blk s H scope (compEnvC scope cl C X.env) fp) ifs tt)
    (he : ∀ (s : Shared) (H : Hp) (C : Addr) (cl : List (Str × Addr)) (fp : List Addr), DE (X.blk s H scope (compEnvC scope cl C X.env) fp) elt te) (ok : blkC X.N X.env.scope scope own = true) (hsw : swapsWith (.ListComp elt [⟨tg, iter, ifs, 0⟩] scope pos) (some (.Name y py)) spos.line X.env = pure true)
    (hy : X.N[i]? = some y := by rfl) (hyl : X.env.scope.names.lookup y = some .local := by rfl) (hj : ∀ j ∈ js, j ∈ own.map (·.2) := by decide) (hs : ∀ x, foldedSetIterable iter X.env x = pure x := by intro _; rfl) :
    DS X (.Assign [.Name y py] (.ListComp elt [⟨tg, iter, ifs, 0⟩] scope pos) spos) (sAsg (dComp ti g tt te (own.map (·.2))) (aName i)) :=
  PS.weak (ps_setLc (g := liftG X.K js g) (tt := liftT X.K tt) (te := liftE X.K te) hc hN hy hyl hsw hi (blkOk_by ok) hg ht he hs) fun Dn σ H ⟨r0, G0, H0, r, G, ρ, P, E, p, q⟩ =>
    lift_comp hj ⟨r, G, ρ, _, E.env, p, fun v x G' H' p' W R => q.nx _ _ _ _ _ p' ((E.grow W).sets (js := [i]) ⟨fun k hk => by
      have : i ≠ k := fun z => hk (by simp [z])
      exact ⟨List.getElem?_set_ne this, List.getElem?_set_ne this⟩, by simp, fun k y hk => by
      have : k = i := by simpa using hk
      subst this
      rw [List.getElem?_set]
      simp only [if_true]
      split <;> simp, fun k C a fs hk => by
      have : k = i := by simpa using hk
      subst this
      rw [List.getElem?_set]
      simp only [if_true]
      split <;> simp⟩ ((E.env.grow W).set R))⟩
/-- x += e, x an int or a text -/
def sAug (i : Nat) (f : F2) (te : PT0) : PTS := fun P ρ => ∃ x, ρ[i]? = some (.d x) ∧ te ρ fun y => f x y fun z => P.nx (ρ.set i (.d z))
theorem ds_aug (i : Nat) {x : Str} {op : Operator} {f : F2} (ho : DO X (inplaceOp op) f) (hN : X.N.Nodup) (he : DE X e te) (hi : X.N[i]? = some x := by rfl) (hx : Loc X.env.scope x := by first | exact Or.inl rfl | exact Or.inr rfl) (hf : X.fn x = true ∨ X.env.scope.names.lookup x = some .local := by first | exact .inl rfl | exact .inr rfl) :
    DS X (.AugAssign (.Name x pos') op e pos) (sAug i f te) := PS.weak (ps_aug hN hi hx he ho hf) fun Dn σ H ⟨r0, G0, H0, r, G, ρ, P, E, ⟨x, ex, p⟩, q⟩ => by
  obtain ⟨v, h1, h2⟩ := E.env.get ex
  exact ⟨v, h1, r, G, ρ, _, E.env, p, fun u y G1 H1 p1 W1 R1 => ⟨r, G1, x, y, _, (E.grow W1).env.st, h2.mono W1.g, R1, p1, fun w z G2 H2 p2 W2 R2 => q.nx _ _ _ _ _ p2 (((E.grow W1).grow W2).sets (js := [i]) ⟨fun k hk => by
      have : i ≠ k := fun z => hk (by simp [z])
      exact ⟨List.getElem?_set_ne this, List.getElem?_set_ne this⟩, by simp, fun k y hk => by
      have : k = i := by simpa using hk
      subst this
      rw [List.getElem?_set]
      simp only [if_true]
      split <;> simp, fun k C a fs hk => by
      have : k = i := by simpa using hk
      subst this
      rw [List.getElem?_set]
      simp only [if_true]
      split <;> simp⟩ (((E.env.grow W1).grow W2).set R2))⟩⟩
theorem do_iadd : DO X (inplaceOp .Add) (fIn0 fun i j => .int (i + j)) := do_in0 iop_add fun _ _ _ => .int _
theorem do_isub : DO X (inplaceOp .Sub) (fIn0 fun i j => .int (i - j)) := do_in0 iop_sub fun _ _ _ => .int _
theorem own_in {K : Fg} {r : Option Addr} {G H : Hp} {σ : L2.St} {ρ : List PV} (E : EnvR K r G H σ ρ) {i : Nat} {xs : List Dt} (e : ρ[i]? = some (.own (.list xs))) : ∃ a vs, σ[i]? = some (some (.ref a)) ∧ H a = some (.lst vs) ∧ Reps K G vs xs := by
  obtain ⟨a, h1, _, _, h2⟩ := E.getO e
  cases h2 with
  | lst h3 h4 => exact ⟨a, _, h1, h3, h4⟩
/-- x.append(e), x.extend(e) -/
def sApp (i : Nat) (te : PT0) : PTS := fun P ρ => ∃ xs, ρ[i]? = some (.own (.list xs)) ∧ te ρ fun y => xs.length < sizeLine ∧ P.nx (ρ.set i (.own (.list (xs ++ [y]))))
def sExt (i : Nat) (te : PT0) : PTS := fun P ρ => ∃ xs, ρ[i]? = some (.own (.list xs)) ∧ te ρ fun y => ∃ ys, y = .list ys ∧ xs.length + ys.length ≤ sizeLine ∧ P.nx (ρ.set i (.own (.list (xs ++ ys))))
theorem ds_app (i : Nat) {x : Str} {p0 apos cpos : Pos} (he : DE X e te) (hi : X.N[i]? = some x := by rfl) (hv : Vis X.env.scope x := by first | exact Or.inl rfl | exact Or.inr (Or.inl rfl) | exact Or.inr (Or.inr rfl)) (hd : (x == ("__debug__" : Str)) = false := by decide)
    (hcd : (x == ("__classdict__" : Str)) = false := by decide) (hs : starEach (e :: []) X.env = (false, eval e X.env) :: starEach [] X.env := by rfl) (hbase : attributeBase (.Name x p0) "append" X.env (eval (.Name x p0) X.env) = eval (.Name x p0) X.env := by rfl)
    (hfew : ((backTo cpos (starEach (e :: []) X.env)).all (fun x => !x.1) && (backToKw cpos (keywordEach [] X.env)).all (fun x => x.1.isSome) && decide ((e :: ([] : List Expr)).length + ([] : List Keyword).length + (if ([] : List Keyword).isEmpty then 0 else 1) < 30)) = true := by rfl)
    (hline : (apos.endLine == cpos.line) = true := by rfl) (hplain : (backTo cpos (starEach [] X.env)).any (·.1) = false := by rfl) (hsw : swapsWith (.Call (.Attribute (.Name x p0) "append" apos) [e] [] cpos) none pos.line X.env = pure false := by rfl) :
    DS X (.Expr (.Call (.Attribute (.Name x p0) "append" apos) [e] [] cpos) pos) (sApp i te) :=
  PS.weak (ps_expr (pe_bm PySem.F.plainAttrs_list PySem.F.slot_list_append PySem.F.type_list_append mt_append (pe_var hi hv hd hcd) (pa_cons he pa_nil hs) hbase hfew hline hs hplain) hsw) fun Dn σ H ⟨r0, G0, H0, r, G, ρ, P, E, ⟨xs, ex, p⟩, q⟩ => by
    obtain ⟨a, vs, h1, h2, h3⟩ := own_in E.env ex
    refine ⟨.ref a, h1, .inl ⟨rfl, _, SqL.of h2⟩, r, G, ρ, _, E.env, p, fun v y G1 H1 p1 W R => ?_⟩
    have E1 := E.grow W
    obtain ⟨a', vs', h1', h2', h3'⟩ := own_in E1.env ex
    rw [h1] at h1'
    cases h1'
    exact ⟨a, vs', v, rfl, rfl, h2', by rw [h3'.length]; exact p1.1, q.nx _ _ _ _ _ p1.2 (E1.put ex h1 (.lst upd_same (h3'.snoc R)))⟩
theorem ds_ext (i : Nat) {x : Str} {p0 apos cpos : Pos} (he : DE X e te) (hi : X.N[i]? = some x := by rfl) (hv : Vis X.env.scope x := by first | exact Or.inl rfl | exact Or.inr (Or.inl rfl) | exact Or.inr (Or.inr rfl)) (hd : (x == ("__debug__" : Str)) = false := by decide)
    (hcd : (x == ("__classdict__" : Str)) = false := by decide) (hs : starEach (e :: []) X.env = (false, eval e X.env) :: starEach [] X.env := by rfl) (hbase : attributeBase (.Name x p0) "extend" X.env (eval (.Name x p0) X.env) = eval (.Name x p0) X.env := by rfl)
    (hfew : ((backTo cpos (starEach (e :: []) X.env)).all (fun x => !x.1) && (backToKw cpos (keywordEach [] X.env)).all (fun x => x.1.isSome) && decide ((e :: ([] : List Expr)).length + ([] : List Keyword).length + (if ([] : List Keyword).isEmpty then 0 else 1) < 30)) = true := by rfl)
    (hline : (apos.endLine == cpos.line) = true := by rfl) (hplain : (backTo cpos (starEach [] X.env)).any (·.1) = false := by rfl) (hsw : swapsWith (.Call (.Attribute (.Name x p0) "extend" apos) [e] [] cpos) none pos.line X.env = pure false := by rfl) :
    DS X (.Expr (.Call (.Attribute (.Name x p0) "extend" apos) [e] [] cpos) pos) (sExt i te) :=
  PS.weak (ps_expr (pe_bm PySem.F.plainAttrs_list PySem.F.slot_list_extend PySem.F.type_list_extend mt_extend (pe_var hi hv hd hcd) (pa_cons he pa_nil hs) hbase hfew hline hs hplain) hsw) fun Dn σ H ⟨r0, G0, H0, r, G, ρ, P, E, ⟨xs, ex, p⟩, q⟩ => by
    obtain ⟨a, vs, h1, h2, h3⟩ := own_in E.env ex
    refine ⟨.ref a, h1, .inl ⟨rfl, _, SqL.of h2⟩, r, G, ρ, _, E.env, p, fun v y G1 H1 ⟨ys, ey, p1, p2⟩ W R => ?_⟩
    have E1 := E.grow W
    obtain ⟨a', vs', h1', h2', h3'⟩ := own_in E1.env ex
    rw [h1] at h1'
    cases h1'
    subst ey
    cases R with
    | lst e4 r4 => exact ⟨a, _, vs', _, rfl, rfl, h2', W.gh _ _ e4, by rw [h3'.length, r4.length]; exact p1, q.nx _ _ _ _ _ p2 (E1.put ex h1 (.lst upd_same (h3'.append r4)))⟩
/-- x[k] = e -/
def sSet (i : Nat) (ty tv : PT0) : PTS := fun P ρ => tv ρ fun v => ∃ xs, ρ[i]? = some (.own (.list xs)) ∧ ty ρ fun k => ∃ n j, k = .int n ∧ ixN xs.length n = some j ∧ P.nx (ρ.set i (.own (.list (xs.set j v))))
theorem ds_setO (i : Nat) {x : Str} {k : Expr} {p0 p1 : Pos} (hk : DE X k ty) (he : DE X e tv) (hi : X.N[i]? = some x := by rfl) (hv : Vis X.env.scope x := by first | exact Or.inl rfl | exact Or.inr (Or.inl rfl) | exact Or.inr (Or.inr rfl)) (hd : (x == ("__debug__" : Str)) = false := by decide)
    (hcd : (x == ("__classdict__" : Str)) = false := by decide)
    (ha : ∀ v, assign (.Subscript (.Name x p0) k p1) X.env v = (do
      let ov ← holding [v] (eval (.Name x p0) X.env)
      let iv ← holding [v, ov] (eval k X.env)
      standAt p1
      holding [v, ov, iv] (setItem ov iv v)
      release [v, ov, iv] []) := by intro _; rfl)
    (hs : swapsWithSole [.Subscript (.Name x p0) k p1] e pos.line X.env = pure false := by rfl) (hw : swappedStores [.Subscript (.Name x p0) k p1] e X.env = pure none := by rfl)
    (h1 : (assignEach [.Subscript (.Name x p0) k p1] X.env).map (·.2) = [assign (.Subscript (.Name x p0) k p1) X.env] := by rfl) : DS X (.Assign [.Subscript (.Name x p0) k p1] e pos) (sSet i ty tv) :=
  PS.weak (ps_asg he (pg_sub (pe_var hi hv hd hcd) hk set_list ha) hs hw h1) fun Dn σ H ⟨r0, G0, H0, r, G, ρ, P, E, p, q⟩ => ⟨r, G, ρ, _, E.env, p, fun v y G1 H1 ⟨xs, ex, p1⟩ W1 R1 => by
    have E1 := E.grow W1
    obtain ⟨a, vs, h1, h2, h3⟩ := own_in E1.env ex
    refine ⟨.ref a, h1, r, G1, ρ, _, E1.env, p1, fun w z G2 H2 ⟨n, j, en, hj, p2⟩ W2 R2 => ?_⟩
    have E2 := E1.grow W2
    obtain ⟨a', vs', h1', h2', h3'⟩ := own_in E2.env ex
    rw [h1] at h1'
    cases h1'
    subst en
    cases R2
    exact ⟨a, vs', n, j, rfl, rfl, h2', by rw [h3'.length]; exact hj, q.nx _ _ _ _ _ p2 (E2.put ex h1 (.lst upd_same (Reps.set (R1.mono W2.g) j h3')))⟩⟩

/-! ### loops -/
def forP (g : PTG) (tb : PTS) (P : PEnds) : List Dt → List PV → Prop
  | [], ρ => P.nx ρ
  | x :: xs, ρ => g x ρ fun ρ1 => tb { P with nx := forP g tb P xs, ct := forP g tb P xs, bk := P.nx } ρ1
def sFor (ti : PTI) (g : PTG) (tb : PTS) : PTS := fun P ρ => ti ρ fun xs => xs.length ≤ sizeLine → forP g tb P xs ρ
theorem EnvS.rebase {K : Fg} {r0 r : Option Addr} {G0 H0 G1 G H : Hp} {σ : L2.St} {ρ : List PV} (E : EnvS K r0 G1 H0 r G H σ ρ) (g : Same G0 G1) (y : ∀ b o, H0 b = some o → G0 b = none → G1 b = none) (nt : ∀ b ps, G1 b = some (.tbl ps) → G0 b = some (.tbl ps)) : EnvS K r0 G0 H0 r G H σ ρ :=
  ⟨E.env, ⟨g.trans E.gr.g, E.gr.h0, E.gr.gh, fun b o e n => E.gr.y b o e (y b o e n), E.gr.row, E.gr.t, fun b ps e => nt b ps (E.gr.nt b ps e)⟩, E.rr, E.rh, E.yg, E.yo⟩
theorem EnvS.base {K : Fg} {r0 r : Option Addr} {G0 H0 G H : Hp} {σ : L2.St} {ρ : List PV} (E : EnvS K r0 G0 H0 r G H σ ρ) : EnvS K r0 G H0 r G H σ ρ :=
  ⟨E.env, ⟨Same.refl _, E.gr.h0, E.gr.gh, fun _ _ _ e => e, E.gr.row, E.gr.t, fun _ _ e => e⟩, E.rr, E.rh, E.yg, E.yo⟩
theorem ds_for {js : List Nat} {ti : PTI} {g : PTG} (hp : PassesOwn (model X.prog X.w) X.A X.env X.xe) (hc : X.calm = true) (hi : DI X tg iter ti) (hg : DG X tg js g) (hb : DSs X body tb)
    (hs : ∀ x, foldedSetIterable iter X.env x = pure x := by intro _; rfl) : DS X (.For tg iter body [] pos) (sFor ti g tb) :=
  PS.weak (ps_for hp hc hi hg hb hs) fun Dn σ H ⟨r0, G0, H0, r, G, ρ, P, E, p, q⟩ => ⟨r, G, ρ, _, E.env, p, fun J xs G1 H1 p1 W1 hJ => by
    obtain ⟨Gd, Y, wk, hG, hY⟩ := hJ.ex
    have p1 := p1 hJ.len
    have E1 := E.grow W1
    have back : ∀ {r' : Option Addr} {G' H' : Hp} {σ' : L2.St} {ρ' : List PV}, EnvS X.K r0 G1 H0 r' G' H' σ' ρ' → EnvS X.K r0 G0 H0 r' G' H' σ' ρ' := fun E' => E'.rebase E1.gr.g E1.gr.y E1.gr.nt
    refine for_it wk (fun i σ' H' => ∃ r' G' ρ', EnvS X.K r0 G1 H0 r' G' H' σ' ρ' ∧ forP g tb P (xs.drop i) ρ') ⟨r, G1, ρ, E1.base, by rw [List.drop_zero]; exact p1⟩ (fun i σ' H' _ ⟨r', G', ρ', E', _⟩ => hG H' (E'.gr.g.trans E'.gr.gh)) (fun i x σ' H' H2 hi ⟨r', G', ρ', E', pp⟩ hy => ?_) (fun σ' H' ⟨r', G', ρ', E', pp⟩ => ?_)
    · obtain ⟨Gc, Wc, Rx⟩ := hY i H' x H2 xs[i] G' r' E'.gr.g E'.env.st (List.getElem?_eq_getElem hi) hy
      rw [List.drop_eq_getElem_cons hi] at pp
      have E2 := E'.grow Wc
      exact ⟨r', Gc, ρ', xs[i], _, E2.env, Rx, pp, fun σ3 ρ3 p3 E3 S3 => ⟨r0, G1, H0, r', Gc, ρ3, _, E2.sets S3 E3, p3, ⟨fun r4 σ4 ρ4 G4 H4 p4 E4 => ⟨r4, G4, ρ4, E4, p4⟩, fun r4 σ4 ρ4 G4 H4 p4 E4 => q.nx _ _ _ _ _ p4 (back E4), fun r4 σ4 ρ4 G4 H4 p4 E4 => ⟨r4, G4, ρ4, E4, p4⟩,
        fun v d G4 H4 p4 W4 R4 => q.rt v d G4 H4 p4 ⟨E1.gr.g.trans W4.g, W4.h0, W4.gh, fun b o e n => W4.y b o e (E1.gr.y b o e n), W4.row, W4.t, fun b ps e => E1.gr.nt b ps (W4.nt b ps e)⟩ R4⟩⟩⟩
    · rw [List.drop_length] at pp
      exact q.nx _ _ _ _ _ pp (back E')⟩
/-- while: a word and a measure -/
def sWhile (c : PTT) (tb : PTS) : PTS := fun P ρ => ∃ W : Nat → List PV → Prop, (∃ m, W m ρ) ∧ ∀ m ρ, W m ρ → c ρ fun k => if k = true then ∃ N : List PV → Prop, (∀ ρ', N ρ' → ∃ m', m' < m ∧ W m' ρ') ∧ tb { P with nx := N, ct := N, bk := P.nx } ρ else P.nx ρ
theorem ds_while {tc : PTT} (hp : PassesOwn (model X.prog X.w) X.A X.env X.xe) (hc : DT X c tc) (hb : DSs X body tb) : DS X (.While c body [] pos) (sWhile tc tb) :=
  PS.weak (ps_while hp hc hb) fun Dn σ H ⟨r0, G0, H0, r, G, ρ, P, E, ⟨W, ⟨m, w0⟩, p⟩, q⟩ => by
    refine ⟨fun m σ' H' => ∃ r' G' ρ', EnvS X.K r0 G0 H0 r' G' H' σ' ρ' ∧ W m ρ', ⟨m, r, G, ρ, E, w0⟩, fun m σ' H' ⟨r', G', ρ', E', w'⟩ => ?_⟩
    refine ⟨r', G', ρ', _, E'.env, p m ρ' w', fun k G2 H2 p2 W2 => ?_⟩
    have E2 := E'.grow W2
    cases k with
    | false => exact q.nx _ _ _ _ _ p2 E2
    | true =>
      obtain ⟨N, hN, p2⟩ := (if_pos rfl).mp p2
      exact iteT ⟨fun σ4 H4 => ∃ r4 G4 ρ4, EnvS X.K r0 G0 H0 r4 G4 H4 σ4 ρ4 ∧ N ρ4, fun σ4 H4 ⟨r4, G4, ρ4, E4, n4⟩ => by
        obtain ⟨m', hm, w4⟩ := hN ρ4 n4
        exact ⟨m', hm, r4, G4, ρ4, E4, w4⟩, r0, G0, H0, r', G2, ρ', _, E2, p2, ⟨fun r4 σ4 ρ4 G4 H4 p4 E4 => ⟨r4, G4, ρ4, E4, p4⟩, fun r4 σ4 ρ4 G4 H4 p4 E4 => q.nx _ _ _ _ _ p4 E4, fun r4 σ4 ρ4 G4 H4 p4 E4 => ⟨r4, G4, ρ4, E4, p4⟩, q.rt⟩⟩
/-- a, b = x, y: plain local names, stored from the right -/
def sPar (i j : Nat) (ta : PTA) : PTS := fun P ρ => ta ρ fun xs => ∃ x y, xs = [x, y] ∧ P.nx ((ρ.set i (.d x)).set j (.d y))
theorem set_sets {K : Fg} {r : Option Addr} {G H : Hp} {σ : L2.St} {ρ : List PV} (i : Nat) (v : V) (x : Dt) : Sets [i] σ ρ (σ.set i (some v)) (ρ.set i (.d x)) := ⟨fun k hk => by
    have : i ≠ k := fun z => hk (by simp [z])
    exact ⟨List.getElem?_set_ne this, List.getElem?_set_ne this⟩, by simp, fun k y hk => by
    have : k = i := by simpa using hk
    subst this
    rw [List.getElem?_set]
    simp only [if_true]
    split <;> simp, fun k C a fs hk => by
    have : k = i := by simpa using hk
    subst this
    rw [List.getElem?_set]
    simp only [if_true]
    split <;> simp⟩
theorem ds_par (i j : Nat) {x y : Str} {a b : Expr} {ta : PTA} {px py pt : Pos} {kt k2 pt2} (hc : X.calm = true) (hN : X.N.Nodup) (ha : DA X [a, b] ta) (hi : X.N[i]? = some x := by rfl) (hj : X.N[j]? = some y := by rfl) (hij : i ≠ j := by decide)
    (hx : X.env.scope.names.lookup x = some .local := by rfl) (hy : X.env.scope.names.lookup y = some .local := by rfl)
    (hw : swappedStores [.Tuple [.Name x px, .Name y py] kt pt] (.Tuple [a, b] k2 pt2) X.env = pure (some [x, y]) := by rfl)
    (hs : swapsWithSole [.Tuple [.Name x px, .Name y py] kt pt] (.Tuple [a, b] k2 pt2) pos.line X.env = pure false := by rfl) : DS X (.Assign [.Tuple [.Name x px, .Name y py] kt pt] (.Tuple [a, b] k2 pt2) pos) (sPar i j ta) :=
  PS.weak (ps_par hc hN hi hj hij hx hy ha hw hs) fun Dn σ H ⟨r0, G0, H0, r, G, ρ, P, E, p, q⟩ => ⟨r, G, ρ, _, E.env, p, fun vs xs G1 H1 ⟨x, y, e, p1⟩ W R => by
    subst e
    cases R with
    | cons R1 R2 =>
      cases R2 with
      | cons R2 R3 =>
        cases R3
        have E1 := E.grow W
        have A := E1.env.set (i := i) R1
        exact ⟨_, _, rfl, q.nx _ _ _ _ _ p1 ((E1.sets (set_sets (K := X.K) (r := r) (G := G1) (H := H1) i _ x) A).sets (set_sets (K := X.K) (r := r) (G := G1) (H := H1) j _ y) (A.set R2))⟩⟩
/-- sep.join(texts) -/
def dJoin (to te : PT0) : PT0 := fun ρ P => to ρ fun s => ∃ a, s = .str a ∧ te ρ fun y => ∃ xs ys, (y = .list xs ∨ y = .tuple xs) ∧ dStrs xs = some ys ∧ (ys.map (·.length)).sum + ys.length * a.length ≤ 16777216 ∧ P (.str (Txt.join a ys))
theorem de_join {o e : Expr} {to te : PT0} {apos pos : Pos} (ho : DE X o to) (he : DE X e te) (hs : starEach [e] X.env = [(false, eval e X.env)] := by rfl) (hbase : attributeBase o "join" X.env (eval o X.env) = eval o X.env := by rfl) (hline : (apos.endLine == pos.line) = true := by rfl) :
    DE X (.Call (.Attribute o "join" apos) [e] [] pos) (dJoin to te) := PE.weak (pe_join ho he hs hbase hline) fun σ H Q ⟨r, G, ρ, P, E, p, q⟩ => ⟨r, G, ρ, _, E, p, fun v d G1 H1 ⟨a, ea, p1⟩ W1 R1 => by
  subst ea
  cases R1
  refine ⟨⟨a, rfl⟩, r, G1, ρ, _, E.grow W1, p1, fun u y G2 H2 ⟨xs, ys, ey, es, hz, p2⟩ W2 R2 => ?_⟩
  have ex := strs_eq es
  subst ex
  rcases ey with ey | ey
  · subst ey
    cases R2 with
    | lst e3 r3 =>
      rw [r3.strs] at e3
      exact ⟨a, _, ys, rfl, rfl, .inl (SqL.of (W2.gh _ _ e3)), hz, q _ _ _ _ p2 (W1.trans W2) (.str _)⟩
  · subst ey
    cases R2 with
    | tup e3 r3 =>
      rw [r3.strs] at e3
      exact ⟨a, _, ys, rfl, rfl, .inr (same_seqP W2.gh e3), hz, q _ _ _ _ p2 (W1.trans W2) (.str _)⟩⟩
end
end PD
namespace PD
open PySem PySem.Spec PyProof.Rows L2

/-! ### zip of a list or a tuple with a list or a tuple -/
def SIt : Bool → Heap → Addr → Addr → Nat → Prop
  | true, h, it, l, i => h.IsListIter it l i
  | false, h, it, l, i => h.IsTupleIter it l i
def SSq : Bool → Heap → Addr → Array Value → Prop
  | true, h, l, xs => h.IsList l xs
  | false, h, l, xs => h.IsTuple l xs
def SqB (K : Fg) : Bool → Hp → Addr → List V → Prop
  | true => SqL K
  | false => SqT K
def sideObj : Bool → Addr → Obj
  | true, l => { cls := .type "list_iterator", data := .fields #[.ref l, .int 0 0] }
  | false, l => { cls := .type "tuple_iterator", data := .fields #[.ref l, .int 0 0] }
theorem side_draws {prog : Program} {w : World} {A : Around} (b : Bool) (hh : A.handled = none) (it l : Addr) (hne : l ≠ it) (items : Array Value) : Draws prog w A it [it, l] items.size (fun i v => items[i]? = some v) (fun i h => SIt b h it l i ∧ SSq b h l items) := by
  cases b
  · exact Draws.tuple hh it l hne items
  · exact Draws.list hh it l hne items
theorem side_begins (b : Bool) (l : Addr) (items : Array Value) : Begins (.ref l) (sideObj b l) fun h => SSq b h l items := by
  cases b
  · exact begins_tuple l items
  · exact begins_list l items
theorem side_it {b : Bool} {h : Heap} {it l : Addr} (e : h.get? it = some (sideObj b l)) : SIt b h it l 0 := by
  cases b <;> exact ⟨_, e, rfl, rfl⟩
theorem side_obj {b : Bool} {h : Heap} {it l : Addr} {i : Nat} (s : SIt b h it l i) : ∃ o, h.get? it = some o ∧ ∀ v, o.data ≠ .cell v := by
  cases b <;> (obtain ⟨o, e, _, d⟩ := s; exact ⟨o, e, fun v q => by rw [d] at q; cases q⟩)
theorem side_at {b : Bool} {h h' : Heap} {it l : Addr} {i : Nat} (s : SIt b h it l i) (k : ∀ o, h.get? it = some o → h'.get? it = some o) : SIt b h' it l i := by
  cases b <;> exact s.at k
section
variable {X : Cx} {pins : List (Addr × Obj)} {σ : L2.St} {H : Hp} {s : Shared}
theorem side_inv {b : Bool} {a : Addr} {xs : List V} (I : Inv X pins σ H s) (h : SqB X.K b H a xs) : ∃ its : List Value, Vals xs its ∧ SSq b s.heap a its.toArray ∧ xs.length ≤ sizeLine ∧ a < s.heap.objs.size := by
  cases b
  · obtain ⟨its, r, p, z⟩ := I.tuple h
    exact ⟨its, r, p, z, p.lt⟩
  · obtain ⟨its, r, p, z⟩ := I.list h
    exact ⟨its, r, p.isList, z, p.lt⟩
theorem side_inj {b : Bool} {a : Addr} {xs ys : List V} (I : Inv X pins σ H s) (h : SqB X.K b H a xs) (h' : SqB X.K b H a ys) : xs = ys := by
  cases b
  · exact I.tuple_inj h h'
  · exact I.list_inj h h'
end
def Itzz (K : Fg) (p q : Bool) (a b : Addr) : It :=
  ⟨fun i H => ∃ (xs ys : List V) (x y : V), SqB K p H a xs ∧ SqB K q H b ys ∧ xs[i]? = some x ∧ ys[i]? = some y,
    fun i H v H' => ∃ T x y, v = .ref T ∧ H T = none ∧ H' = upd H T (.tup [x, y]) ∧ (∀ xs, SqB K p H a xs → xs[i]? = some x) ∧ ∀ ys, SqB K q H b ys → ys[i]? = some y,
    fun i H => ∃ xs ys : List V, SqB K p H a xs ∧ SqB K q H b ys ∧ i = min xs.length ys.length⟩
theorem turn_zz {P : Program} {w : World} {K : Fg} {elts : List Expr} {kk : Nat} {tpos : Pos} (p q : Bool) {a b z TI TO i1 i2 : Addr} (D : ZipSep2 z TI TO i1 i2 [i1, a] [i2, b]) (h1 : a ≠ i1) (h2 : b ≠ i2) :
    Turn P w K (.Tuple elts kk tpos) (Itzz K p q a b) [z, TI, TO, i1, i2] z (fun i h => IsZip h z TI TO .none ∧ IsTupOf2 h TI (.ref i1) (.ref i2) ∧ (∃ x y, IsTupOf2 h TO x y) ∧ SIt p h i1 a i ∧ SIt q h i2 b i) where
  mem := by simp
  obj := fun i h ⟨hz, hI, ⟨x, y, hO⟩, s1, s2⟩ c hc => by
    simp only [List.mem_cons, List.not_mem_nil, or_false] at hc
    rcases hc with rfl | rfl | rfl | rfl | rfl
    · exact ⟨_, hz, fun v q => nomatch q⟩
    · exact ⟨_, hI, fun v q => nomatch q⟩
    · exact ⟨_, hO, fun v q => nomatch q⟩
    · exact side_obj s1
    · exact side_obj s2
  keep := fun i h h' ⟨hz, hI, ⟨x, y, hO⟩, s1, s2⟩ k => ⟨k z (by simp) _ hz, k TI (by simp) _ hI, ⟨x, y, k TO (by simp) _ hO⟩, side_at s1 fun o e => k i1 (by simp) o e, side_at s2 fun o e => k i2 (by simp) o e⟩
  item := by
    intro X hP hw hK hc i pins s σ H E I hf ⟨hz, hI, hO, s1, s2⟩ ⟨xs, ys, x, y, hx, hy, ex, ey⟩
    subst hP hw hK
    obtain ⟨its, rv, sq, _, _⟩ := side_inv I hx
    obtain ⟨its2, rv2, sq2, _, _⟩ := side_inv I hy
    have hh := I.ok.hd hc
    have W := GoesN.zip2 (prog := X.prog) (w := X.w) (A := X.A) (elts := elts) (x1 := kk) (pos := tpos) D (side_draws (A := X.A.in1) p hh i1 a h1 its.toArray) (side_draws (A := X.A.in1) q hh i2 b h2 its2.toArray)
    have hi : i < min its.toArray.size its2.toArray.size := by
      have e1 := (List.getElem?_eq_some_iff.mp ex).1
      have e2 := (List.getElem?_eq_some_iff.mp ey).1
      have e3 := rv.length
      have e4 := rv2.length
      simp only [List.size_toArray]
      omega
    refine W.goes i s (fun v s2 => ∃ x' H', Inv X pins σ H' s2 ∧ L2.RelV x' v ∧ (Itzz X.K p q a b).yld i H x' H' ∧ (IsZip s2.heap z TI TO .none ∧ IsTupOf2 s2.heap TI (.ref i1) (.ref i2) ∧ (∃ x y, IsTupOf2 s2.heap TO x y) ∧ SIt p s2.heap i1 a (i + 1) ∧ SIt q s2.heap i2 b (i + 1)) ∧ ∀ c ∈ [z, TI, TO, i1, i2], H' c = none) E hi ⟨hz, hI, hO, ⟨s1, sq⟩, s2, sq2⟩ fun v h' tk ⟨T, x', y', ev, hT, hx', hy', hTup⟩ ⟨g1, g2, g3, ⟨g4, _⟩, g5, _⟩ hk _ => ?_
    subst ev
    obtain ⟨u1, e1, r1⟩ := rv.get ex
    obtain ⟨u2, e2, r2⟩ := rv2.get ey
    have e3 : its[i]? = some x' := by simpa using hx'
    have e4 : its2[i]? = some y' := by simpa using hy'
    rw [e1] at e3
    rw [e2] at e4
    cases e3
    cases e4
    have hn : H T = none := I.hok.fresh hT
    obtain ⟨o, ho, hcl, n, hd⟩ := hTup
    have new : ObjOk X.prog X.w (upd H T (.tup [x, y])) h' T (.tup [x, y]) := ⟨by show 2 ≤ sizeLine; decide, [x', y'], .cons r1 (.cons r2 .nil), ⟨o, ho, hcl, n, hd⟩⟩
    refine ⟨.ref T, _, I.turnedNew (t' := tk) (ch := [z, TI, TO, i1, i2]) (fun c o' hc' e => hk c o' (fun m => hc' ?_) e) hf hT new, rfl, ⟨T, x, y, rfl, hn, rfl, fun xs' h => ?_, fun ys' h => ?_⟩, ⟨g1, g2, g3, g4, g5⟩, fun c hcm => ?_⟩
    · simp only [List.mem_cons, List.not_mem_nil, or_false] at m ⊢
      rcases m with m | m | m | m <;> simp [m]
    · rw [side_inj I h hx]; exact ex
    · rw [side_inj I h hy]; exact ey
    · obtain ⟨oc, hoc⟩ : ∃ oc, s.heap.get? c = some oc := by
        simp only [List.mem_cons, List.not_mem_nil, or_false] at hcm
        rcases hcm with rfl | rfl | rfl | rfl | rfl
        · exact ⟨_, hz⟩
        · exact ⟨_, hI⟩
        · obtain ⟨_, _, e⟩ := hO; exact ⟨_, e⟩
        · obtain ⟨o, e, _⟩ := side_obj s1; exact ⟨o, e⟩
        · obtain ⟨o, e, _⟩ := side_obj s2; exact ⟨o, e⟩
      rw [upd_ne (Nat.ne_of_lt (Nat.lt_of_lt_of_le (Heap.lt_size hoc) hT))]
      exact (hf c hcm).1
  done := by
    intro X hP hw hK hc i pins s σ H E I hf ⟨hz, hI, hO, s1, s2⟩ ⟨xs, ys, hx, hy, hend⟩
    subst hP hw hK
    obtain ⟨its, rv, sq, _, _⟩ := side_inv I hx
    obtain ⟨its2, rv2, sq2, _, _⟩ := side_inv I hy
    have hh := I.ok.hd hc
    have W := GoesN.zip2 (prog := X.prog) (w := X.w) (A := X.A) (elts := elts) (x1 := kk) (pos := tpos) D (side_draws (A := X.A.in1) p hh i1 a h1 its.toArray) (side_draws (A := X.A.in1) q hh i2 b h2 its2.toArray)
    have hi : i = min its.toArray.size its2.toArray.size := by
      have e3 := rv.length
      have e4 := rv2.length
      simp only [List.size_toArray]
      omega
    subst hi
    refine thn (W.stops s (fun s' => Inv X pins σ H s') E ⟨hz, hI, hO, ⟨s1, sq⟩, s2, sq2⟩ fun h' tk hk _ => I.turnedL (t' := tk) (ch := [z, TI, TO, i1, i2]) (fun c o' hc' e => hk c o' (fun m => hc' ?_) e) hf) fun r s' hq => hq
    simp only [List.mem_cons, List.not_mem_nil, or_false] at m ⊢
    rcases m with m | m | m | m <;> simp [m]
  self := fun A i s Q E st h => wpAny_pyIter_zip st.1 h
def iZZ (K : Fg) (ta : TA) : TI := fun σ H R => ta σ H fun vs H1 => ∃ (p q : Bool) (a b : Addr) (xs ys : List V), vs = [.ref a, .ref b] ∧ SqB K p H1 a xs ∧ SqB K q H1 b ys ∧ (xs.length ≤ sizeLine → R (Itzz K p q a b) H1)
theorem pi_zz {X : Cx} {e e2 : Expr} {ta : TA} {p pos tpos : Pos} {elts : List Expr} {kk : Nat} (hg : Gl X "zip") (hm : X.mg "zip" = none) (ha : PA X [e, e2] ta)
    (hs : starEach [e, e2] X.env = (false, eval e X.env) :: starEach [e2] X.env := by rfl) (hpl : (backTo pos (starEach [e2] X.env)).any (·.1) = false := by rfl) :
    PI X (.Tuple elts kk tpos) (.Call (.Name "zip" p) [e, e2] [] pos) (iZZ X.K ta) := by
  refine ⟨fun pins s σ H R I h => Call_ (ld_blt I hg hm PyProof.Rows.boot_zip (PyProof.Rows.callWith_type1 (thn (ha.run pos pins s σ H _ I h) fun us s1 ⟨vs, H1, I1, r1, q1⟩ => ?_) hs hpl))⟩
  obtain ⟨k1, k2, a, b, xs, ys, ex, hx, hy, q⟩ := q1
  subst ex
  cases r1 with
  | cons r rr =>
    cases rr with
    | cons r' rr =>
      cases rr; cases r; cases r'
      obtain ⟨its, rv, sq, hz1, l1⟩ := side_inv I1 hx
      obtain ⟨its2, rv2, sq2, _, l2⟩ := side_inv I1 hy
      have ff : ∀ c, c ∈ [s1.heap.objs.size + 4, s1.heap.objs.size + 2, s1.heap.objs.size + 3, s1.heap.objs.size, s1.heap.objs.size + 1] → FpOk X pins H1 c := fun c hcm => by
        have hle : s1.heap.objs.size ≤ c := by
          simp only [List.mem_cons, List.not_mem_nil, or_false] at hcm
          rcases hcm with z | z | z | z | z <;> (rw [z]; first | exact Nat.le_refl _ | exact Nat.le_add_right _ _)
        exact I1.fpOk hle (I1.hok.fresh hle)
      refine zip_begins2 (side_begins k1 a its.toArray) (side_begins k2 b its2.toArray) sq sq2 fun h' hz hTI hTO h1 h2 hsz hk => wpAny_pyIter_zip hz ?_
      have D := zip_sep2 (N := s1.heap.objs.size) (fp1 := [a]) (fp2 := [b]) (by simpa using l1) (by simpa using l2)
      exact ⟨_, _, _, _, H1, rfl, I1.kept (t' := s1.toks) hk, turn_zz k1 k2 D (Nat.ne_of_lt l1) (Nat.ne_of_lt (Nat.lt_succ_of_lt l2)), ⟨hz, hTI, ⟨_, _, hTO⟩, side_it h1, side_it h2⟩, ff, q hz1⟩
/-- pairs of what stands in two lists or tuples -/
def seqD : Dt → Option (List Dt)
  | .list xs => some xs
  | .tuple xs => some xs
  | _ => none
def zipD (xs ys : List Dt) : List Dt := List.zipWith (fun x y => .tuple [x, y]) xs ys
def dZip (t : PTA) : PTI := fun ρ P => t ρ fun ds => ∃ x y xs ys, ds = [x, y] ∧ seqD x = some xs ∧ seqD y = some ys ∧ P (zipD xs ys)
theorem side_rep {K : Fg} {G : Hp} {v : V} {x : Dt} {xs : List Dt} (R : Rep K G v x) (e : seqD x = some xs) : ∃ p a vs, v = .ref a ∧ (∀ H, Same G H → SqB K p H a vs) ∧ Reps K G vs xs := by
  cases R with
  | lst e1 r1 =>
    cases e
    exact ⟨true, _, _, rfl, fun H g => SqL.of (g _ _ e1), r1⟩
  | tup e1 r1 =>
    cases e
    exact ⟨false, _, _, rfl, fun H g => same_seqP g e1, r1⟩
  | non => cases e
  | bl => cases e
  | int => cases e
  | str => cases e
  | dic => cases e
  | dicT => cases e
theorem itr_zip {K : Fg} {G : Hp} {p q : Bool} {a b : Addr} {vs ws : List V} {xs ys : List Dt} (ha : ∀ H, Same G H → SqB K p H a vs) (hb : ∀ H, Same G H → SqB K q H b ws) (R : Reps K G vs xs) (R' : Reps K G ws ys) (hz : xs.length ≤ sizeLine) : ItR K G (Itzz K p q a b) (zipD xs ys) := by
  have hl := R.length
  have hl' := R'.length
  have hn : (zipD xs ys).length = min vs.length ws.length := by simp [zipD, hl, hl']
  refine ⟨by rw [hn]; omega, fun H => SqB K p H a vs ∧ SqB K q H b ws, YPair (fun i => vs[i]?) (fun i => ws[i]?), ⟨fun i H hi g => ?_, fun H g => ⟨vs, ws, g.1, g.2, hn⟩, fun i H v H' _ g y => ?_⟩, fun H g => ⟨ha H g, hb H g⟩, fun i H v H' x Gc r g S hx hy => ?_⟩
  · have h1 : i < vs.length := by omega
    have h2 : i < ws.length := by omega
    exact ⟨vs, ws, vs[i], ws[i], g.1, g.2, List.getElem?_eq_getElem h1, List.getElem?_eq_getElem h2⟩
  · obtain ⟨T, x, z, h1, h2, h3, h4, h5⟩ := y
    exact ⟨T, x, z, h1, h2, h3, h4 vs g.1, h5 ws g.2⟩
  · obtain ⟨T, v1, v2, rfl, hT, rfl, h4, h5⟩ := hy
    unfold zipD at hx
    rw [List.getElem?_zipWith] at hx
    obtain ⟨d1, e1, r1⟩ := R.get' h4
    obtain ⟨d2, e2, r2⟩ := R'.get' h5
    rw [e1, e2] at hx
    cases hx
    have W := S.lay (o := .tup [v1, v2]) hT
    exact ⟨_, W, .tup upd_same (.cons (r1.mono (g.trans W.g)) (.cons (r2.mono (g.trans W.g)) .nil))⟩
theorem di_zip {X : Cx} {e e2 : Expr} {t : PTA} {p pos tpos : Pos} {elts : List Expr} {kk : Nat} (hm : X.mg "zip" = none) (ha : DA X [e, e2] t) (hg : Gl X "zip" := by rfl)
    (hs : starEach [e, e2] X.env = (false, eval e X.env) :: starEach [e2] X.env := by rfl) (hpl : (backTo pos (starEach [e2] X.env)).any (·.1) = false := by rfl) :
    DI X (.Tuple elts kk tpos) (.Call (.Name "zip" p) [e, e2] [] pos) (dZip t) := PI.weak (pi_zz hg hm ha hs hpl) fun σ H R ⟨r, G, ρ, P, E, p, q⟩ => ⟨r, G, ρ, _, E, p, fun vs ds G1 H1 ⟨x, y, xs, ys, e, ex, ey, p1⟩ W1 R1 => by
  subst e
  cases R1 with
  | cons R1 R2 =>
    cases R2 with
    | cons R2 R3 =>
      cases R3
      obtain ⟨k1, a, us, rfl, ha, r1⟩ := side_rep R1 ex
      obtain ⟨k2, b, ws, rfl, hb, r2⟩ := side_rep R2 ey
      exact ⟨k1, k2, a, b, us, ws, rfl, ha H1 W1.gh, hb H1 W1.gh, fun hz => q _ _ _ _ p1 W1 (itr_zip ha hb r1 r2 (r1.length ▸ hz))⟩⟩
end PD
namespace PD
open PySem PySem.Spec PyProof.Rows L2

section
variable {X : Cx} {pos : Pos} {a : Expr} {ta : PT0}
/-! ### truth of any datum; a module's constant -/
def truD : Dt → Option Bool
  | .none => some false
  | .bool b => some b
  | .int i => some (i != 0)
  | .list xs => some !xs.isEmpty
  | .tuple xs => some !xs.isEmpty
  | _ => none
def dTru (t : PT0) : PTT := fun ρ P => t ρ fun x => ∃ k, truD x = some k ∧ P k
theorem isEmpty_reps {K : Fg} {G : Hp} {vs : List V} {xs : List Dt} (R : Reps K G vs xs) : vs.isEmpty = xs.isEmpty := by
  cases R <;> rfl
theorem dt_truth (h : DE X a ta) (he : ∀ whole, isTrue a X.env whole = (do let v ← whole; standAt a.pos; holding [v] (truthy v)) := by intro _; rfl) : DT X a (dTru ta) := PT.weak (pt_truth h he) fun σ H Q ⟨r, G, ρ, P, E, p, q⟩ => ⟨r, G, ρ, _, E, p, fun v x G1 H1 ⟨k, ek, p1⟩ W1 R1 => by
  cases R1 <;> cases ek
  · exact ⟨_, rfl, q _ _ _ p1 W1⟩
  · exact ⟨_, rfl, q _ _ _ p1 W1⟩
  · exact ⟨_, rfl, q _ _ _ p1 W1⟩
  · rename_i e1 r1 _
    exact ⟨_, .inl ⟨_, SqL.of (W1.gh _ _ e1), rfl⟩, by rw [isEmpty_reps r1]; exact q _ _ _ p1 W1⟩
  · rename_i e1 r1 _
    exact ⟨_, .inr (.inl ⟨_, same_seqP W1.gh e1, rfl⟩), by rw [isEmpty_reps r1]; exact q _ _ _ p1 W1⟩⟩
theorem de_globS {x : Str} {z : Str} {t : Tok} (hm : X.mg x = some (.str z t)) (hg : Gl X x := by rfl) (hd : (x == ("__debug__" : Str)) = false := by decide) : DE X (.Name x pos) (dC (.str z)) :=
  PE.weak (pe_glob (v := .str z) hg hm ⟨t, rfl⟩ hd) fun σ H Q ⟨r, G, ρ, P, E, p, q⟩ => q _ _ G H p E.st.grow (.str z)
/-- what `len` and its kin find at a list of one's own -/
def dLenO (i : Nat) : PT0 := fun ρ P => ∃ xs, ρ[i]? = some (.own (.list xs)) ∧ P (.int xs.length)
theorem de_lenO (i : Nat) {x : Str} {p p0 : Pos} (hm : X.mg "len" = none) (hi : X.N[i]? = some x := by rfl) (hv : Vis X.env.scope x := by first | exact Or.inl rfl | exact Or.inr (Or.inl rfl) | exact Or.inr (Or.inr rfl)) (hg : Gl X "len" := by rfl) (hd : (x == ("__debug__" : Str)) = false := by decide)
    (hcd : (x == ("__classdict__" : Str)) = false := by decide) (he : starEach [.Name x p0] X.env = (false, eval (.Name x p0) X.env) :: starEach [] X.env := by rfl) (hpl : (backTo pos (starEach [] X.env)).any (·.1) = false := by rfl) :
    DE X (.Call (.Name "len" p) [.Name x p0] [] pos) (dLenO i) := PE.weak (pe_callB call_len hg hm PySem.boot_len (pa_cons (pe_var hi hv hd hcd) pa_nil he) (he := he) (hpl := hpl)) fun σ H Q ⟨r, G, ρ, P, E, ⟨xs, ex, p⟩, q⟩ => by
  obtain ⟨a, vs, h1, h2, h3⟩ := own_in E ex
  exact ⟨.ref a, h1, .ref a, _, rfl, .inl ⟨_, SqL.of h2, rfl⟩, by rw [h3.length]; exact q _ _ G H p E.st.grow (.int _)⟩
end

/-! ### a def of the text, with what is known of its name -/
structure Df (K : Fg) (mg : Str → Option Value) (x : Str) (st : Stmt) (ps : List Str) (f : Addr) (fd : FuncData) : Prop where
  fn : Fun K x x st f fd
  gl : mg x = some (.ref f)
  bd : Binds K fd ps []
theorem df_call {X : Cx} {k : Nat} {f : Addr} {fd : FuncData} {ps : List Str} {F : PF} {x : Str} {p pos : Pos} {e : Expr} {es : List Expr} {t : PTAs} {st : Stmt} {j : Nat} (D : Df X.K X.mg x st ps f fd) (Fk : FnOk X.prog X.w X.K X.mg X.base CX0 k f fd ps (liftF X.K F)) (hr : Room j X.A) (ha : DAs X (e :: es) t) (hj : k ≤ j := by decide) (hg : Gl X x := by rfl)
    (hdb : (x == ("__debug__" : Str)) = false := by decide) (he : starEach (e :: es) X.env = (false, eval e X.env) :: starEach es X.env := by rfl) (hpl : (backTo pos (starEach es X.env)).any (·.1) = false := by rfl) :
    DE X (.Call (.Name x p) (e :: es) [] pos) (dCall F t) := de_call Fk (hr.mono hj) D.gl D.fn.kp D.bd ha hg hdb he hpl
/-- the built-in names that the text leaves as they are -/
structure Blt (mg : Str → Option Value) : Prop where
  len : mg "len" = none
  isinstance : mg "isinstance" = none
  int : mg "int" = none
  bool : mg "bool" = none
  str : mg "str" = none
  tuple : mg "tuple" = none
  list : mg "list" = none
  dict : mg "dict" = none
  set : mg "set" = none
  all : mg "all" = none
  any : mg "any" = none
  zip : mg "zip" = none
  range : mg "range" = none
  enumerate : mg "enumerate" = none
  sorted : mg "sorted" = none
  min : mg "min" = none
  max : mg "max" = none
  sum : mg "sum" = none

/-! ### row = [script, n, n, n] -/
def sRow (i j : Nat) : PTS := fun P ρ => i < ρ.length ∧ (∃ ns, ρ[j]? = some (.scr ns)) ∧ (∀ k : Nat, ρ[k]? ≠ some PV.row) ∧ P.nx (ρ.set i .row)
theorem ds_row (i j : Nat) {X : Cx} {x y : Str} {a b c : Int} {ka kb kc : Nat} {p1 p2 p3 p4 p5 p6 pos : Pos} (h0 : 0 ≤ a) (hN : X.N.Nodup) (hi : X.N[i]? = some x := by rfl) (hj : X.N[j]? = some y := by rfl) (hv : Vis X.env.scope y := by first | exact Or.inl rfl | exact Or.inr (Or.inl rfl) | exact Or.inr (Or.inr rfl)) (hx : Loc X.env.scope x := by first | exact Or.inl rfl | exact Or.inr rfl)
    (hd : (y == ("__debug__" : Str)) = false := by decide) (hcd : (y == ("__classdict__" : Str)) = false := by decide)
    (hs : swapsWith (.List [.Name y p2, .Constant (.int a) ka p3, .Constant (.int b) kb p4, .Constant (.int c) kc p5] p6) (some (.Name x p1)) pos.line X.env = pure false := by rfl)
    (s0 : starEach [.Name y p2, .Constant (.int a) ka p3, .Constant (.int b) kb p4, .Constant (.int c) kc p5] X.env = (false, eval (.Name y p2) X.env) :: starEach [.Constant (.int a) ka p3, .Constant (.int b) kb p4, .Constant (.int c) kc p5] X.env := by rfl)
    (s1 : starEach [.Constant (.int a) ka p3, .Constant (.int b) kb p4, .Constant (.int c) kc p5] X.env = (false, eval (.Constant (.int a) ka p3) X.env) :: starEach [.Constant (.int b) kb p4, .Constant (.int c) kc p5] X.env := by rfl)
    (s2 : starEach [.Constant (.int b) kb p4, .Constant (.int c) kc p5] X.env = (false, eval (.Constant (.int b) kb p4) X.env) :: starEach [.Constant (.int c) kc p5] X.env := by rfl)
    (s3 : starEach [.Constant (.int c) kc p5] X.env = (false, eval (.Constant (.int c) kc p5) X.env) :: starEach [] X.env := by rfl)
    (hf : X.fn x = true ∨ X.env.scope.names.lookup x = some .local := by first | exact .inl rfl | exact .inr rfl) :
    DS X (.Assign [.Name x p1] (.List [.Name y p2, .Constant (.int a) ka p3, .Constant (.int b) kb p4, .Constant (.int c) kc p5] p6) pos) (sRow i j) :=
  PS.weak (ps_set hN hi hx (pe_lst (pa_cons (pe_var hj hv hd hcd) (pa_cons pe_int (pa_cons pe_int (pa_cons pe_int pa_nil s3) s2) s1) s0)) hs hf) fun Dn σ H ⟨r0, G0, H0, r, G, ρ, P, E, ⟨hl, ⟨ns, ej⟩, no, p⟩, q⟩ => by
    obtain ⟨o, h1, sa, rfl, h2⟩ := E.env.slot j _ ej
    refine ⟨.ref sa, h1, by show 4 ≤ sizeLine; decide, fun c' hc => ?_⟩
    have S := E.env.st
    have gc : G c' = none := S.gh.free hc
    have W := S.lay0 (o := .lst [.ref sa, .int a, .int b, .int c]) hc
    have rc := S.rowNe hc
    refine q.nx (some c') _ _ _ _ p ⟨⟨⟨W.gh, fun d ed => ?_, S.nt⟩, by simp [E.env.len], fun k pv e => ?_, fun k l d x' y' e1 e2 e3 e4 => ?_, apart_set E.env.apart (fun _ => by simp) (fun _ _ _ => by simp)⟩, E.grown W, .inr ⟨c', rfl, ?_⟩, E.rh, fun k d x' e1 e2 => ?_, fun k C d fs e => E.yo k C d fs (set_not_obj e fun _ _ _ => by simp).2⟩
    · cases ed
      exact ⟨gc, sa, ns, a, b, c, upd_same, h2, h0⟩
    · by_cases hk : k = i
      · subst hk
        rw [List.getElem?_set_self hl] at e
        cases e
        exact ⟨_, List.getElem?_set_self (by rw [E.env.len]; exact hl), c', rfl, rfl⟩
      · rw [List.getElem?_set_ne (Ne.symm hk)] at e ⊢
        obtain ⟨o, g1, g2⟩ := E.env.slot k pv e
        refine ⟨o, g1, ?_⟩
        cases pv with
        | un => trivial
        | d x => exact g2
        | own x =>
          obtain ⟨d, rfl, gd, rd, g3⟩ := g2
          obtain ⟨od, hd, _⟩ := g3.some
          have ne : d ≠ c' := ne_of_none hd hc
          exact ⟨d, rfl, gd, fun z => ne (Option.some.inj z).symm, g3.at (Same.refl _) (upd_ne ne)⟩
        | row => exact absurd e (no k)
        | scr ns => exact g2
        | rng lo hi => exact g2
        | ins C fs => exact g2
        | obj C d fs =>
          obtain ⟨rfl, g3, g4⟩ := g2
          have ne : ∀ b ∈ d :: fps fs, b ≠ c' := fun b hb => by
            obtain ⟨u, hu, _⟩ := g3.there b hb
            exact ne_of_none hu hc
          exact ⟨rfl, g3.at (Same.refl _) fun b hb => upd_ne (ne b hb), fun b hb => ⟨(g4 b hb).1, fun z => ne b hb (Option.some.inj z).symm⟩⟩
        | fz p => exact fun G2 H2 g3 t2 => g2 G2 H2 g3 (W.t.trans t2)
    · have f1 : ρ[k]? = some (.own x') := by
        by_cases hk : k = i
        · subst hk; rw [List.getElem?_set_self hl] at e1; cases e1
        · rwa [List.getElem?_set_ne (Ne.symm hk)] at e1
      have f2 : ρ[l]? = some (.own y') := by
        by_cases hk : l = i
        · subst hk; rw [List.getElem?_set_self hl] at e2; cases e2
        · rwa [List.getElem?_set_ne (Ne.symm hk)] at e2
      have n1 : k ≠ i := fun z => by subst z; rw [List.getElem?_set_self hl] at e1; cases e1
      have n2 : l ≠ i := fun z => by subst z; rw [List.getElem?_set_self hl] at e2; cases e2
      rw [List.getElem?_set_ne (Ne.symm n1)] at e3
      rw [List.getElem?_set_ne (Ne.symm n2)] at e4
      exact E.env.dist k l d x' y' f1 f2 e3 e4
    · cases z : H0 c' with
      | none => rfl
      | some u =>
        obtain ⟨o', h⟩ := E.gr.there z
        rw [hc] at h; cases h
    · have n1 : k ≠ i := fun z => by subst z; rw [List.getElem?_set_self hl] at e1; cases e1
      rw [List.getElem?_set_ne (Ne.symm n1)] at e1 e2
      exact E.yg k d x' e1 e2

/-! ### the law's draws -/
theorem row_grow {K : Fg} {G H H' : Hp} {a sa : Addr} {ns : List Int} {i s q : Int} (S : Start K (some a) G H) (e : H' a = some (.lst [.ref sa, .int i, .int s, .int q])) (hs : SqL K G sa (ns.map V.int)) (h0 : 0 ≤ i) (k : ∀ b, b ≠ a → H' b = H b) : Grow K (some a) G H G H' := by
  have ga := (S.row a rfl).1
  have eH : H' = upd H a (.lst [.ref sa, .int i, .int s, .int q]) := funext fun b => by
    by_cases z : b = a
    · subst z; rw [upd_same]; exact e
    · rw [upd_ne z]; exact k b z
  have tg : TbGo K H H' := by
    rw [eH]
    obtain ⟨_, _, _, _, _, h2, _⟩ := (S.row a rfl).2
    exact .upd (ne_at h2 ne_lst)
  exact ⟨Same.refl _, fun b o n _ h => (k b fun z => n (z ▸ rfl)).trans h, fun b o h => (k b fun z => by subst z; rw [ga] at h; cases h).trans (S.gh _ _ h), fun _ _ _ n => n, fun c ec => by cases ec; exact ⟨sa, ns, i, s, q, e, hs, h0⟩, tg, fun _ _ e => e⟩
def Ftaken : PF := fun as P => ∃ n : Int, as = [.row, .d (.int n)] ∧ 0 < n ∧ n < 1073741824 ∧ ∀ x : Int, 0 ≤ x → x < n → P (.int x)
section
variable {P : Program} {w : World} {K : Fg} {mg : Str → Option Value} {base : Heap}
theorem at4 {a b c d : V} : atI [a, b, c, d] 0 = some a ∧ atI [a, b, c, d] 1 = some b ∧ atI [a, b, c, d] 2 = some c ∧ atI [a, b, c, d] 3 = some d := ⟨rfl, rfl, rfl, rfl⟩
theorem mod_in {i n : Int} (h : 0 < n) : 0 ≤ i % n ∧ i % n < n := ⟨Int.emod_nonneg _ (by omega), Int.emod_lt_of_pos _ h⟩
end
end PD
namespace PD
open PySem L2

/-! ### readings of comprehensions and loops, as a whole -/
theorem lcP_map {g : PTG} {te : PT0} {ρ : List PV} (f : Dt → Dt) : ∀ (xs acc : List Dt) (P : List Dt → Prop), (∀ x ∈ xs, ∀ P' : Dt → Prop, P' (f x) → g x ρ fun ρ1 => te ρ1 P') → P (acc ++ xs.map f) → lcP g dYes te ρ xs acc P
  | [], acc, P, _, h => by simpa [lcP] using h
  | x :: xs, acc, P, hx, h => by
    unfold lcP
    simp only [dYes, if_true]
    refine hx x (by simp) _ (lcP_map f xs (acc ++ [f x]) P (fun y hy => hx y (by simp [hy])) ?_)
    simpa using h
theorem lcP_rel {g : PTG} {te : PT0} {ρ : List PV} (R : Dt → Dt → Prop) : ∀ (xs acc : List Dt) (P : List Dt → Prop), (∀ x ∈ xs, ∀ P' : Dt → Prop, (∀ y, R x y → P' y) → g x ρ fun ρ1 => te ρ1 P') → (∀ ys, Paired R xs ys → P (acc ++ ys)) → lcP g dYes te ρ xs acc P
  | [], acc, P, _, h => by simpa [lcP] using h [] .nil
  | x :: xs, acc, P, hx, h => by
    unfold lcP
    simp only [dYes, if_true]
    refine hx x (by simp) _ fun y hy => lcP_rel R xs (acc ++ [y]) P (fun y hy => hx y (by simp [hy])) fun ys hr => ?_
    simpa using h (y :: ys) (.cons hy hr)
theorem lcP_filter {g : PTG} {tt : PTT} {te : PT0} {ρ : List PV} (b : Dt → Bool) (f : Dt → Dt) : ∀ (xs acc : List Dt) (P : List Dt → Prop),
    (∀ x ∈ xs, ∀ (Pt : Dt → Prop) (Pf : Prop), (if b x = true then Pt (f x) else Pf) → g x ρ fun ρ1 => tt ρ1 fun k => if k = true then te ρ1 Pt else Pf) → P (acc ++ (xs.filter b).map f) → lcP g tt te ρ xs acc P
  | [], acc, P, _, h => by simpa [lcP] using h
  | x :: xs, acc, P, hx, h => by
    unfold lcP
    refine hx x (by simp) _ _ ?_
    by_cases hb : b x = true
    · rw [if_pos hb]
      exact lcP_filter b f xs _ P (fun y hy => hx y (by simp [hy])) (by simpa [List.filter_cons, hb] using h)
    · rw [if_neg hb]
      exact lcP_filter b f xs _ P (fun y hy => hx y (by simp [hy])) (by simpa [List.filter_cons, hb] using h)

theorem lcP_map0 {g : PTG} {te : PT0} {ρ : List PV} (f : Dt → Dt) (xs : List Dt) (P : List Dt → Prop) (h : ∀ x ∈ xs, ∀ P' : Dt → Prop, P' (f x) → g x ρ fun ρ1 => te ρ1 P') (p : P (xs.map f)) : lcP g dYes te ρ xs [] P := lcP_map f xs [] P h (by simpa using p)
theorem lcP_rel0 {g : PTG} {te : PT0} {ρ : List PV} (R : Dt → Dt → Prop) (xs : List Dt) (P : List Dt → Prop) (h : ∀ x ∈ xs, ∀ P' : Dt → Prop, (∀ y, R x y → P' y) → g x ρ fun ρ1 => te ρ1 P') (p : ∀ ys, Paired R xs ys → P ys) : lcP g dYes te ρ xs [] P := lcP_rel R xs [] P h (by simpa using p)
theorem lcP_filter0 {g : PTG} {tt : PTT} {te : PT0} {ρ : List PV} (b : Dt → Bool) (f : Dt → Dt) (xs : List Dt) (P : List Dt → Prop)
    (h : ∀ x ∈ xs, ∀ (Pt : Dt → Prop) (Pf : Prop), (if b x = true then Pt (f x) else Pf) → g x ρ fun ρ1 => tt ρ1 fun k => if k = true then te ρ1 Pt else Pf) (p : P ((xs.filter b).map f)) : lcP g tt te ρ xs [] P := lcP_filter b f xs [] P h (by simpa using p)
theorem lcP_enc' {α : Type} {g : PTG} {te : PT0} {ρ : List PV} (enc f : α → Dt) : ∀ (ws : List α) (acc : List Dt) (P : List Dt → Prop), (∀ w ∈ ws, ∀ P' : Dt → Prop, P' (f w) → g (enc w) ρ fun ρ1 => te ρ1 P') → P (acc ++ ws.map f) → lcP g dYes te ρ (ws.map enc) acc P
  | [], acc, P, _, h => by simpa [lcP] using h
  | x :: xs, acc, P, hx, h => by
    rw [List.map_cons]
    unfold lcP
    simp only [dYes, if_true]
    refine hx x (by simp) _ (lcP_enc' enc f xs (acc ++ [f x]) P (fun y hy => hx y (by simp [hy])) ?_)
    simpa using h
theorem lcP_enc {α : Type} {g : PTG} {te : PT0} {ρ : List PV} (enc f : α → Dt) (ws : List α) (P : List Dt → Prop) (h : ∀ w ∈ ws, ∀ P' : Dt → Prop, P' (f w) → g (enc w) ρ fun ρ1 => te ρ1 P') (p : P (ws.map f)) : lcP g dYes te ρ (ws.map enc) [] P := lcP_enc' enc f ws [] P h (by simpa using p)
theorem zip_enc {α β : Type} (f : α → Dt) (h : β → Dt) : ∀ (xs : List α) (ys : List β), zipD (xs.map f) (ys.map h) = (xs.zip ys).map fun p => .tuple [f p.1, h p.2]
  | [], _ => by simp [zipD]
  | _ :: _, [] => by simp [zipD]
  | x :: xs, y :: ys => by
    have := zip_enc f h xs ys
    simp only [zipD] at this ⊢
    simp [this]
theorem ite_b {b : Bool} {A B : Prop} (h1 : b = true → A) (h2 : b = false → B) : if b = true then A else B := by
  cases b
  · simpa using h2 rfl
  · simpa using h1 rfl

/-! ### places of written tuples -/
theorem at0 {a : Dt} {l : List Dt} : atI (a :: l) 0 = some a := atI_nat (j := 0) rfl
theorem at1 {a b : Dt} {l : List Dt} : atI (a :: b :: l) 1 = some b := atI_nat (j := 1) rfl
theorem at2 {a b c : Dt} {l : List Dt} : atI (a :: b :: c :: l) 2 = some c := atI_nat (j := 2) rfl
theorem at3 {a b c d : Dt} {l : List Dt} : atI (a :: b :: c :: d :: l) 3 = some d := atI_nat (j := 3) rfl
theorem at_4 {a b c d e : Dt} {l : List Dt} : atI (a :: b :: c :: d :: e :: l) 4 = some e := atI_nat (j := 4) rfl
theorem fIx_tup {xs : List Dt} {k : Int} {P : Dt → Prop} : fIx (.tuple xs) (.int k) P = ∃ v, atI xs k = some v ∧ P v := rfl
theorem fIx_lst {xs : List Dt} {k : Int} {P : Dt → Prop} : fIx (.list xs) (.int k) P = ∃ v, atI xs k = some v ∧ P v := rfl
theorem aTup_tup {n : Nat} {t : PTGs} {xs : List Dt} {ρ : List PV} {P : List PV → Prop} : aTup n t (.tuple xs) ρ P = (xs.length = n ∧ t xs ρ P) := by
  simp [aTup]

/-! ### equality, by kinds -/
theorem eqOk_int (a b : Int) : eqOk (.int a) (.int b) = true := by simp [eqOk, SeqAt.shaped, PyData.canLay0, PyData.depth]
theorem eqOk_bool (a b : Bool) : eqOk (.bool a) (.bool b) = true := by cases a <;> cases b <;> decide
theorem eqOk_str (a b : Str) : eqOk (.str a) (.str b) = true := rfl
theorem eqOk_non : eqOk .none .none = true := by decide
theorem eqv_non : PyData.eqv .none .none = true := by simp [PyData.eqv]
theorem eqOk_nil : eqOk (.list []) (.list []) = true := by decide
theorem eqv_int (a b : Int) : PyData.eqv (.int a) (.int b) = decide (a = b) := by simp [PyData.eqv]; rfl
theorem eqv_bool (a b : Bool) : PyData.eqv (.bool a) (.bool b) = decide (a = b) := by cases a <;> cases b <;> simp [PyData.eqv]
theorem eqv_str (a b : Str) : PyData.eqv (.str a) (.str b) = decide (a = b) := by simp [PyData.eqv]; rfl
theorem eqv_nil : PyData.eqv (.list []) (.list []) = true := by simp [PyData.eqv, PyData.eqvAll]
theorem line_eq : sizeLine = 16777216 := sizeLine_eq
mutual
/-- texts within are of a size that len takes -/
def smD : Dt → Bool
  | .str z => decide (z.length ≤ 1000)
  | .list xs => smDs xs
  | .tuple xs => smDs xs
  | _ => true
def smDs : List Dt → Bool
  | [] => true
  | x :: xs => smD x && smDs xs
end
theorem smDs_mem : ∀ {xs : List Dt} {x : Dt}, smDs xs = true → x ∈ xs → smD x = true
  | y :: ys, x, h, hx => by
    simp only [smDs, Bool.and_eq_true] at h
    rcases List.mem_cons.mp hx with rfl | hx
    · exact h.1
    · exact smDs_mem h.2 hx
theorem sm_str {z : Str} (h : smD (.str z) = true) : z.length ≤ sizeLine := by
  simp only [smD, decide_eq_true_eq] at h
  rw [line_eq]; omega
end PD
namespace PD
open PySem PySem.Spec PyProof.Rows L2
/-! ### enumerate of a list or a tuple -/
theorem meets_enum1 {v : Value} {o : Obj} {H : Heap → Prop} (B : Begins v o H) :
    Meets (Builtin.«enumerate.__new__» ⟨[.type "enumerate", v], []⟩) (fun _ R s => H s.heap ∧
      R (.ok (.ret (.ref (s.heap.push o).objs.size))) { s with heap := (s.heap.push o).push { cls := .type "enumerate", data := .fields #[.none, .bool false, .ref s.heap.objs.size, rawInt 0, .none, .none] } }) :=
  .of_wp fun prog w A R s h => by
    obtain ⟨hp, g, d, tk, os⟩ := s; obtain ⟨h1, h⟩ := h
    have hsub := sub_enumerate
    have q1 : ∀ {A' : Around} {E : Value → Shared → Prop} {Q : Value → Shared → Prop}, Q (.ref hp.objs.size) ⟨(hp.push o), g, d, tk, os⟩ → wpAny (model prog w) A' (pyIter v) Q E ⟨hp, g, d, tk, os⟩ :=
      fun q => B.iter prog w _ _ ⟨hp, g, d, tk, os⟩ _ h1 q
    wp_walk using q1
    refine wpAny_stack_any fun st => wpAny_pure ?_
    split
    · rename_i c _ _ _ _ _
      cases (c == Value.type "enumerate")
      · wp_walk using q1
        exact ⟨_, rfl, h⟩
      · wp_walk using q1
        exact ⟨_, rfl, h⟩
    · wp_walk using q1
      exact ⟨_, rfl, h⟩
section
variable {prog : Program} {w : World} {A : Around} {E : Value → Shared → Prop} {s : Shared}
theorem enum_begins1 {v : Value} {o : Obj} {H : Heap → Prop} {Q : Value → Shared → Prop} (B : Begins v o H) (h1 : H s.heap)
    (h : ∀ h', IsEnum h' (s.heap.objs.size + 1) s.heap.objs.size 0 .none → h'.get? s.heap.objs.size = some o → h'.objs.size = s.heap.objs.size + 2 → (∀ b o, s.heap.get? b = some o → h'.get? b = some o) → Q (.ref (s.heap.objs.size + 1)) { s with heap := h' }) :
    wpAny (model prog w) A (call (.type "enumerate") [v]) Q E s := by
  refine callType_new F.called_enumerate (by decide) (F.typeCall_enumerate_1 _) (F.newCall_enumerate_1 _) (fun obj => F.args_object_init_2 obj _) F.entry_enumerate_new (meets_enum1 B) ⟨h1, ?_⟩
  have hz : (s.heap.push o).objs.size = s.heap.objs.size + 1 := Heap.size_push ..
  show _ ∧ _
  rw [hz]
  have he : IsEnum ((s.heap.push o).push { cls := .type "enumerate", data := .fields #[.none, .bool false, .ref s.heap.objs.size, rawInt 0, .none, .none] }) (s.heap.objs.size + 1) s.heap.objs.size 0 .none := by
    have := Heap.get?_push_size (s.heap.push o) (o := { cls := .type "enumerate", data := .fields #[.none, .bool false, .ref s.heap.objs.size, rawInt 0, .none, .none] }) rfl
    rw [hz] at this; exact this
  refine ⟨⟨_, he, rfl⟩, h _ he (Heap.get?_push_of_some _ (Heap.get?_push_size _ B.free)) (by rw [Heap.size_push, hz]) fun b o x => Heap.get?_push_of_some _ (Heap.get?_push_of_some _ x)⟩
end
def Itee (K : Fg) (p : Bool) (a : Addr) : It :=
  ⟨fun i H => ∃ (xs : List V) (x : V), SqB K p H a xs ∧ xs[i]? = some x,
    fun i H v H' => ∃ T x, v = .ref T ∧ H T = none ∧ H' = upd H T (.tup [.int (i : Nat), x]) ∧ ∀ xs, SqB K p H a xs → xs[i]? = some x,
    fun i H => ∃ xs : List V, SqB K p H a xs ∧ i = xs.length⟩
theorem turn_ee {P : Program} {w : World} {K : Fg} {elts : List Expr} {kk : Nat} {tpos : Pos} (p : Bool) {a e it : Addr} (h1 : a ≠ it) (h2 : a ≠ e) (h3 : e ≠ it) :
    Turn P w K (.Tuple elts kk tpos) (Itee K p a) [e, it] e (fun i h => (∃ old, IsEnum h e it (0 + (i : Int)) old) ∧ SIt p h it a i) where
  mem := by simp
  obj := fun i h ⟨⟨old, he⟩, s1⟩ c hc => by
    simp only [List.mem_cons, List.not_mem_nil, or_false] at hc
    rcases hc with rfl | rfl
    · exact ⟨_, he, fun v q => nomatch q⟩
    · exact side_obj s1
  keep := fun i h h' ⟨⟨old, he⟩, s1⟩ k => ⟨⟨old, k e (by simp) _ he⟩, side_at s1 fun o q => k it (by simp) o q⟩
  item := by
    intro X hP hw hK hc i pins s σ H E I hf ⟨he, s1⟩ ⟨xs, x, hx, ex⟩
    subst hP hw hK
    obtain ⟨its, rv, sq, _, _⟩ := side_inv I hx
    have hh := I.ok.hd hc
    have W := GoesN.enumFrom (prog := X.prog) (w := X.w) (A := X.A) (elts := elts) (x1 := kk) (pos := tpos) 0 (side_draws (A := X.A.in1) p hh it a h1 its.toArray) e h3 (by simp [h3, Ne.symm h2]) (by simp)
    have hi : i < its.toArray.size := by
      have e1 := (List.getElem?_eq_some_iff.mp ex).1
      have e3 := rv.length
      simp only [List.size_toArray]
      omega
    refine W.goes i s (fun v s2 => ∃ x' H', Inv X pins σ H' s2 ∧ L2.RelV x' v ∧ (Itee X.K p a).yld i H x' H' ∧ ((∃ old, IsEnum s2.heap e it (0 + ((i + 1 : Nat) : Int)) old) ∧ SIt p s2.heap it a (i + 1)) ∧ ∀ c ∈ [e, it], H' c = none) E hi ⟨he, s1, sq⟩ fun v h' tk ⟨T, t, x', ev, hT, hx', hTup⟩ ⟨g1, g2, _⟩ hk _ => ?_
    subst ev
    obtain ⟨u1, e1, r1⟩ := rv.get ex
    have e3 : its[i]? = some x' := by simpa using hx'
    rw [e1] at e3
    cases e3
    have hn : H T = none := I.hok.fresh hT
    obtain ⟨o, ho, hcl, n, hd⟩ := hTup
    rw [Int.zero_add] at hd
    have new : ObjOk X.prog X.w (upd H T (.tup [.int (i : Nat), x])) h' T (.tup [.int (i : Nat), x]) := ⟨by show 2 ≤ sizeLine; decide, [.int (i : Nat) t, x'], .cons ⟨t, rfl⟩ (.cons r1 .nil), ⟨o, ho, hcl, n, hd⟩⟩
    refine ⟨.ref T, _, I.turnedNew (t' := tk) (ch := [e, it]) (fun c o' hc' e => hk c o' (fun m => hc' ?_) e) hf hT new, rfl, ⟨T, x, rfl, hn, rfl, fun xs' h => ?_⟩, ⟨g1, g2⟩, fun c hcm => ?_⟩
    · simp only [List.mem_cons, List.not_mem_nil, or_false] at m ⊢
      rcases m with m | m <;> simp [m]
    · rw [side_inj I h hx]; exact ex
    · obtain ⟨oc, hoc⟩ : ∃ oc, s.heap.get? c = some oc := by
        simp only [List.mem_cons, List.not_mem_nil, or_false] at hcm
        rcases hcm with rfl | rfl
        · obtain ⟨_, he⟩ := he; exact ⟨_, he⟩
        · obtain ⟨o, e, _⟩ := side_obj s1; exact ⟨o, e⟩
      rw [upd_ne (Nat.ne_of_lt (Nat.lt_of_lt_of_le (Heap.lt_size hoc) hT))]
      exact (hf c hcm).1
  done := by
    intro X hP hw hK hc i pins s σ H E I hf ⟨he, s1⟩ ⟨xs, hx, hend⟩
    subst hP hw hK
    obtain ⟨its, rv, sq, _, _⟩ := side_inv I hx
    have hh := I.ok.hd hc
    have W := GoesN.enumFrom (prog := X.prog) (w := X.w) (A := X.A) (elts := elts) (x1 := kk) (pos := tpos) 0 (side_draws (A := X.A.in1) p hh it a h1 its.toArray) e h3 (by simp [h3, Ne.symm h2]) (by simp)
    have hi : i = its.toArray.size := by
      have e3 := rv.length
      simp only [List.size_toArray]
      omega
    subst hi
    refine thn (W.stops s (fun s' => Inv X pins σ H s') E ⟨he, s1, sq⟩ fun h' tk hk _ => I.turnedL (t' := tk) (ch := [e, it]) (fun c o' hc' e => hk c o' (fun m => hc' ?_) e) hf) fun r s' hq => hq
    simp only [List.mem_cons, List.not_mem_nil, or_false] at m ⊢
    rcases m with m | m <;> simp [m]
  self := fun A i s Q E st h => by
    obtain ⟨⟨_, he⟩, _⟩ := st
    exact wpAny_pyIter_enum he h
def iEE (K : Fg) (ta : TA) : TI := fun σ H R => ta σ H fun vs H1 => ∃ (p : Bool) (a : Addr) (xs : List V), vs = [.ref a] ∧ SqB K p H1 a xs ∧ (xs.length ≤ sizeLine → R (Itee K p a) H1)
theorem pi_ee {X : Cx} {e : Expr} {ta : TA} {p pos tpos : Pos} {elts : List Expr} {kk : Nat} (hg : Gl X "enumerate") (hm : X.mg "enumerate" = none) (ha : PA X [e] ta)
    (hs : starEach [e] X.env = [(false, eval e X.env)] := by rfl) :
    PI X (.Tuple elts kk tpos) (.Call (.Name "enumerate" p) [e] [] pos) (iEE X.K ta) := by
  refine ⟨fun pins s σ H R I h => Call_ (ld_blt I hg hm boot_enumerate (PyProof.Rows.callWith_type1 (thn (ha.run pos pins s σ H _ I h) fun us s1 ⟨vs, H1, I1, r1, q1⟩ => ?_) hs rfl))⟩
  obtain ⟨k1, a, xs, ex, hx, q⟩ := q1
  subst ex
  cases r1 with
  | cons r rr =>
    cases rr; cases r
    obtain ⟨its, rv, sq, hz1, l1⟩ := side_inv I1 hx
    refine enum_begins1 (side_begins k1 a its.toArray) sq fun h' he hIt hsz hk => wpAny_pyIter_enum he ?_
    refine ⟨s1.heap.objs.size + 1, [s1.heap.objs.size + 1, s1.heap.objs.size], _, _, H1, rfl, I1.kept (t' := s1.toks) hk, turn_ee k1 (Nat.ne_of_lt l1) (Nat.ne_of_lt (Nat.lt_succ_of_lt l1)) (Nat.succ_ne_self _), ⟨⟨.none, he⟩, side_it hIt⟩, fun b hb => ?_, q hz1⟩
    have e' : b = s1.heap.objs.size + 1 ∨ b = s1.heap.objs.size := by simpa using hb
    have hle : s1.heap.objs.size ≤ b := by
      rcases e' with z | z
      · rw [z]; exact Nat.le_add_right _ _
      · rw [z]; exact Nat.le_refl _
    exact I1.fpOk hle (I1.hok.fresh hle)
def enumFromD (k : Nat) : List Dt → List Dt
  | [] => []
  | x :: xs => .tuple [.int k, x] :: enumFromD (k + 1) xs
def enumD (xs : List Dt) : List Dt := enumFromD 0 xs
theorem enumFromD_length : ∀ (xs : List Dt) (k : Nat), (enumFromD k xs).length = xs.length
  | [], _ => rfl
  | x :: xs, k => by simp [enumFromD, enumFromD_length xs]
theorem enumFromD_get : ∀ (xs : List Dt) (k i : Nat), (enumFromD k xs)[i]? = (xs[i]?).map fun x => .tuple [.int ((k + i : Nat) : Int), x]
  | [], _, _ => by simp [enumFromD]
  | x :: xs, k, 0 => by simp [enumFromD]
  | x :: xs, k, i + 1 => by
    simp only [enumFromD, List.getElem?_cons_succ, enumFromD_get xs (k + 1) i]
    rw [show k + 1 + i = k + (i + 1) by omega]
def dEnum (t : PTA) : PTI := fun ρ P => t ρ fun ds => ∃ x xs, ds = [x] ∧ seqD x = some xs ∧ P (enumD xs)
theorem itr_enum {K : Fg} {G : Hp} {p : Bool} {a : Addr} {vs : List V} {xs : List Dt} (ha : ∀ H, Same G H → SqB K p H a vs) (R : Reps K G vs xs) (hz : xs.length ≤ sizeLine) : ItR K G (Itee K p a) (enumD xs) := by
  have hl := R.length
  have hn : (enumD xs).length = vs.length := by rw [enumD, enumFromD_length, hl]
  refine ⟨by rw [hn]; omega, fun H => SqB K p H a vs, YPair (fun i => some (.int (i : Nat))) (fun i => vs[i]?), ⟨fun i H hi g => ?_, fun H g => ⟨vs, g, hn⟩, fun i H v H' _ g y => ?_⟩, fun H g => ha H g, fun i H v H' x Gc r g S hx hy => ?_⟩
  · have h1 : i < vs.length := by omega
    exact ⟨vs, vs[i], g, List.getElem?_eq_getElem h1⟩
  · obtain ⟨T, x, h1, h2, h3, h4⟩ := y
    exact ⟨T, .int (i : Nat), x, h1, h2, h3, rfl, h4 vs g⟩
  · obtain ⟨T, v1, v2, rfl, hT, rfl, h4, h5⟩ := hy
    cases h4
    rw [enumD, enumFromD_get, Nat.zero_add] at hx
    obtain ⟨d2, e2, r2⟩ := R.get' h5
    rw [e2] at hx
    cases hx
    have W := S.lay (o := .tup [.int (i : Nat), v2]) hT
    exact ⟨_, W, .tup upd_same (.cons (.int _) (.cons (r2.mono (g.trans W.g)) .nil))⟩
theorem di_enum {X : Cx} {e : Expr} {t : PTA} {p pos tpos : Pos} {elts : List Expr} {kk : Nat} (hm : X.mg "enumerate" = none) (ha : DA X [e] t) (hg : Gl X "enumerate" := by rfl)
    (hs : starEach [e] X.env = [(false, eval e X.env)] := by rfl) :
    DI X (.Tuple elts kk tpos) (.Call (.Name "enumerate" p) [e] [] pos) (dEnum t) := PI.weak (pi_ee hg hm ha hs) fun σ H R ⟨r, G, ρ, P, E, p, q⟩ => ⟨r, G, ρ, _, E, p, fun vs ds G1 H1 ⟨x, xs, e, ex, p1⟩ W1 R1 => by
  subst e
  cases R1 with
  | cons R1 R2 =>
    cases R2
    obtain ⟨k1, a, us, rfl, ha, r1⟩ := side_rep R1 ex
    exact ⟨k1, a, us, rfl, ha H1 W1.gh, fun hz => q _ _ _ _ p1 W1 (itr_enum ha r1 (r1.length ▸ hz))⟩⟩
end PD
namespace PD
open PySem PySem.Spec PyProof.Rows L2

/-! ### a range kept by a name -/
theorem cr_range1 {X : Cx} : CallR X (.type "range") (fun vs H Q => ∃ i, vs = [V.int i] ∧ ∀ p, H p = none → Q (.ref p) (upd H p (.rng 0 i))) := by
  intro pins s σ H vs us Q I r h
  obtain ⟨i, rfl, q⟩ := h
  cases r with
  | cons r rr =>
    cases rr
    obtain ⟨t, rfl⟩ := r
    refine call_range_1 ⟨.ref s.heap.objs.size, upd H s.heap.objs.size (.rng 0 i), I.laid (t' := s.toks + 1 + 1) (fun b o e => Heap.get?_push_of_some _ e) (Nat.le_refl _) ?_, rfl, q _ (I.hok.fresh (Nat.le_refl _))⟩
    exact ⟨s.toks, t, s.toks + 1, Heap.get?_push_size _ rfl⟩
def iRngV (te : TE) : TI := fun σ H R => te σ H fun x H1 => ∃ a lo hi, x = .ref a ∧ H1 a = some (.rng lo hi) ∧ (-(2 ^ 62) ≤ lo ∧ lo < 2 ^ 62 ∧ -(2 ^ 62) ≤ hi ∧ hi < 2 ^ 62) ∧ R (Itr lo (hi - lo).toNat) H1
theorem pi_rngV {X : Cx} {tg e : Expr} {te : TE} (he : PE X e te) : PI X tg e (iRngV te) := by
  refine ⟨fun pins s σ H R I h => ?_⟩
  refine thn (he.run pins s σ H _ I h) fun v s1 ⟨x, H1, I1, r1, a, lo, hi, ex, ha, ⟨b1, b2, b3, b4⟩, q⟩ => ?_
  subst ex
  cases r1
  obtain ⟨t1, t2, t3, ho⟩ := I1.hok a _ ha
  refine wpAny_pyIter_range (a := lo) (b := hi) (c := 1) (t := t1) (u := t2) (v := t3) ho (small_one b1 b2 b3 b4) ?_
  refine ⟨s1.heap.objs.size, [s1.heap.objs.size], _, _, H1, rfl, I1.kept (t' := s1.toks) fun b o e => Heap.get?_push_of_some _ e, turn_range _ lo (hi - lo).toNat, ?_, one_fp I1, q⟩
  have e1 : lo + ((0 : Nat) : Int) * 1 = lo := by simp
  have e2 : (((hi - lo).toNat : Nat) : Int) - ((0 : Nat) : Int) = Builtin.Range.rangeSize lo hi 1 := by rw [rangeSize_one]; split <;> omega
  show IsRangeIter _ _ (lo + ((0 : Nat) : Int) * 1) ((((hi - lo).toNat : Nat) : Int) - ((0 : Nat) : Int)) 1
  rw [e1, e2]
  exact Heap.get?_push_size _ rfl
section
variable {K : Fg} {r0 r : Option Addr} {G0 H0 G H G' H' : Hp} {σ σ' : L2.St} {ρ ρ' : List PV}
theorem EnvR.setP (E : EnvR K r G H σ ρ) {i : Nat} {o : Option V} {p : PV} (h : SlotR K r G H o p) (no : ∀ x, p ≠ .own x) (nb : ∀ C a fs, p ≠ .obj C a fs := by intros; simp) : EnvR K r G H (σ.set i o) (ρ.set i p) := by
  refine ⟨E.st, by simp [E.len], fun j q e => ?_, fun j k a x' y' e1 e2 e3 e4 => ?_, apart_set E.apart no nb⟩
  · by_cases hj : j = i
    · subst hj
      have hl : j < ρ.length := by
        have := (List.getElem?_eq_some_iff.mp e).1
        simpa using this
      rw [List.getElem?_set_self hl] at e
      cases e
      exact ⟨o, List.getElem?_set_self (by rw [E.len]; exact hl), h⟩
    · rw [List.getElem?_set_ne (Ne.symm hj)] at e ⊢
      exact E.slot j q e
  · rcases get_set_own e1 with ⟨_, h1⟩ | ⟨h1, f1⟩
    · exact absurd h1 (no _)
    · rcases get_set_own e2 with ⟨_, h2⟩ | ⟨h2, f2⟩
      · exact absurd h2 (no _)
      · rw [List.getElem?_set_ne (Ne.symm h1)] at e3
        rw [List.getElem?_set_ne (Ne.symm h2)] at e4
        exact E.dist j k a x' y' f1 f2 e3 e4
theorem EnvS.setP (E : EnvS K r0 G0 H0 r G H σ ρ) {i : Nat} {o : Option V} {p : PV} (h : SlotR K r G H o p) (no : ∀ x, p ≠ .own x) (nb : ∀ C a fs, p ≠ .obj C a fs := by intros; simp) : EnvS K r0 G0 H0 r G H (σ.set i o) (ρ.set i p) :=
  ⟨E.env.setP h no nb, E.gr, E.rr, E.rh, fun j a x e1 e2 => by
    rcases get_set_own e1 with ⟨_, h1⟩ | ⟨h1, f1⟩
    · exact absurd h1 (no _)
    · rw [List.getElem?_set_ne (Ne.symm h1)] at e2
      exact E.yg j a x f1 e2, fun j C a fs e => E.yo j C a fs (set_not_obj e nb).2⟩
end
section
variable {X : Cx} {st : Stmt} {rest body orelse : List Stmt} {t u tb : PTS} {e tg iter c a k v : Expr} {te ta ty tv tk : PT0} {pos pos' p p0 p1 p2 : Pos} {es : List Expr}
/-- x = range(e) -/
def sRng1 (i : Nat) (ta : PT0) : PTS := fun P ρ => ta ρ fun x => ∃ j, x = .int j ∧ P.nx (ρ.set i (.rng 0 j))
theorem ds_rng1 (i : Nat) {x : Str} (hm : X.mg "range" = none) (hN : X.N.Nodup) (ha : DE X a ta) (hg : Gl X "range" := by rfl) (hi : X.N[i]? = some x := by rfl) (hx : Loc X.env.scope x := by first | exact Or.inl rfl | exact Or.inr rfl) (hs : swapsWith (.Call (.Name "range" p) [a] [] p1) (some (.Name x pos')) pos.line X.env = pure false := by rfl)
    (hst : starEach [a] X.env = (false, eval a X.env) :: starEach [] X.env := by rfl) (hpl : (backTo p1 (starEach [] X.env)).any (·.1) = false := by rfl)
    (hf : X.fn x = true ∨ X.env.scope.names.lookup x = some .local := by first | exact .inl rfl | exact .inr rfl) : DS X (.Assign [.Name x pos'] (.Call (.Name "range" p) [a] [] p1) pos) (sRng1 i ta) :=
  PS.weak (ps_set hN hi hx (pe_callTy cr_range1 hg hm boot_range (pa_cons ha pa_nil hst) (he := hst) (hpl := hpl)) hs hf) fun Dn σ H ⟨r0, G0, H0, r, G, ρ, P, E, p, q⟩ => ⟨r, G, ρ, _, E.env, p, fun v d G1 H1 ⟨j, ej, p1⟩ W1 R1 => by
    subst ej
    cases R1
    refine ⟨j, rfl, fun c hc => ?_⟩
    have E1 := E.grow W1
    have W2 := E1.env.st.lay (o := .rng 0 j) hc
    exact q.nx _ _ _ _ _ p1 ((E1.grow W2).setP ⟨c, rfl, upd_same⟩ fun _ z => nomatch z)⟩
/-- for .. in x, x a range kept -/
def dIterR (i : Nat) : PTI := fun ρ P => ∃ lo hi, ρ[i]? = some (.rng lo hi) ∧ (-1000000 ≤ lo ∧ lo ≤ 1000000 ∧ -1000000 ≤ hi ∧ hi ≤ 1000000) ∧ P (rangeD lo (hi - lo).toNat)
theorem di_rngV (i : Nat) {x : Str} (hN : X.N[i]? = some x := by rfl) (hv : Vis X.env.scope x := by first | exact Or.inl rfl | exact Or.inr (Or.inl rfl) | exact Or.inr (Or.inr rfl)) (hd : (x == ("__debug__" : Str)) = false := by decide)
    (hcd : (x == ("__classdict__" : Str)) = false := by decide) : DI X tg (.Name x pos) (dIterR i) := PI.weak (pi_rngV (pe_var hN hv hd hcd)) fun σ H R ⟨r, G, ρ, P, E, ⟨lo, hi, ex, b, p⟩, q⟩ => by
  obtain ⟨o, h1, a, rfl, h2⟩ := E.slot i _ ex
  exact ⟨.ref a, h1, a, lo, hi, rfl, E.st.gh _ _ h2, by omega, q _ _ G H p E.st.grow (itr_range (by rw [sizeLine_eq]; omega))⟩
/-- x, y = [m], [n] -/
def sOwn2 (i j : Nat) (a b : Int) : PTS := fun P ρ => i < ρ.length ∧ j < ρ.length ∧ P.nx ((ρ.set i (.own (.list [.int a]))).set j (.own (.list [.int b])))
theorem ds_own2 (i j : Nat) {x y : Str} {m n : Int} {px py pt pa1 pa2 pc1 pc2 : Pos} {kt k2 kc1 kc2 pt2} (hc : X.calm = true) (hN : X.N.Nodup) (hi : X.N[i]? = some x := by rfl) (hj : X.N[j]? = some y := by rfl) (hij : i ≠ j := by decide)
    (hx : X.env.scope.names.lookup x = some .local := by rfl) (hy : X.env.scope.names.lookup y = some .local := by rfl)
    (hw : swappedStores [.Tuple [.Name x px, .Name y py] kt pt] (.Tuple [.List [.Constant (.int m) kc1 pc1] pa1, .List [.Constant (.int n) kc2 pc2] pa2] k2 pt2) X.env = pure (some [x, y]) := by rfl)
    (hs : swapsWithSole [.Tuple [.Name x px, .Name y py] kt pt] (.Tuple [.List [.Constant (.int m) kc1 pc1] pa1, .List [.Constant (.int n) kc2 pc2] pa2] k2 pt2) pos.line X.env = pure false := by rfl)
    (h1 : starEach [.List [.Constant (.int m) kc1 pc1] pa1, .List [.Constant (.int n) kc2 pc2] pa2] X.env = (false, eval (.List [.Constant (.int m) kc1 pc1] pa1) X.env) :: starEach [.List [.Constant (.int n) kc2 pc2] pa2] X.env := by rfl)
    (h2 : starEach [.List [.Constant (.int n) kc2 pc2] pa2] X.env = (false, eval (.List [.Constant (.int n) kc2 pc2] pa2) X.env) :: starEach [] X.env := by rfl)
    (h3 : starEach [.Constant (.int m) kc1 pc1] X.env = (false, eval (.Constant (.int m) kc1 pc1) X.env) :: starEach [] X.env := by rfl) (h4 : starEach [.Constant (.int n) kc2 pc2] X.env = (false, eval (.Constant (.int n) kc2 pc2) X.env) :: starEach [] X.env := by rfl) :
    DS X (.Assign [.Tuple [.Name x px, .Name y py] kt pt] (.Tuple [.List [.Constant (.int m) kc1 pc1] pa1, .List [.Constant (.int n) kc2 pc2] pa2] k2 pt2) pos) (sOwn2 i j m n) :=
  PS.weak (ps_par hc hN hi hj hij hx hy (pa_cons (pe_lst (pa_cons pe_int pa_nil h3)) (pa_cons (pe_lst (pa_cons pe_int pa_nil h4)) pa_nil h2) h1) hw hs) fun Dn σ H ⟨r0, G0, H0, r, G, ρ, P, E, ⟨li, lj, p⟩, q⟩ =>
    ⟨by show 1 ≤ sizeLine; decide, fun c hc => ⟨by show 1 ≤ sizeLine; decide, fun d hd => ⟨_, _, rfl, by
      have E1 := E.take (i := i) hc (.lst upd_same (.cons (.int m) .nil)) li
      have E2 := E1.take (i := j) hd (.lst upd_same (.cons (.int n) .nil)) (by simpa using lj)
      exact q.nx _ _ _ _ _ p E2⟩⟩⟩
end

/-! ### dicts by ints and texts -/
section
variable {α : Type}
def getA (l : List (Key × α)) (k : Key) : Option α := (l.find? fun kv => decide (kv.1 = k)).map (·.2)
def hasA (l : List (Key × α)) (k : Key) : Bool := l.any fun kv => decide (kv.1 = k)
def putA (l : List (Key × α)) (k : Key) (v : α) : List (Key × α) := if hasA l k = true then l.map (fun kv => if kv.1 = k then (kv.1, v) else kv) else l ++ [(k, v)]
theorem hasA_get (k : Key) : ∀ l : List (Key × α), hasA l k = (getA l k).isSome
  | [] => rfl
  | p :: l => by
    have ih := hasA_get k l
    unfold hasA getA at ih ⊢
    rw [List.any_cons, List.find?_cons]
    by_cases h : p.1 = k
    · simp [h]
    · simp [h, ih]
end
def kd (l : List (Key × Dt)) : Dt := .dict (l.map fun p => (keyD p.1, p.2))
theorem keyD_inj {a b : Key} (h : keyD a = keyD b) : a = b := by
  cases a <;> cases b <;> simp [keyD] at h <;> rw [h]
/-- what stands in a dict -/
inductive RepA (K : Fg) (G : Hp) : List (Key × V) → List (Key × Dt) → Prop
  | nil : RepA K G [] []
  | cons {k : Key} {v : V} {d : Dt} {kvs : List (Key × V)} {l : List (Key × Dt)} : Rep K G v d → RepA K G kvs l → RepA K G ((k, v) :: kvs) ((k, d) :: l)
section
variable {K : Fg} {G G' : Hp}
theorem repK_of : ∀ {kvs : List (Key × V)} {l : List (Key × Dt)}, RepA K G kvs l → RepK K G kvs (l.map fun p => (keyD p.1, p.2))
  | _, _, .nil => .nil
  | _, _, .cons r t => .cons r (repK_of t)
theorem repA_of' : ∀ {kvs : List (Key × V)} {ds : List (Dt × Dt)}, RepK K G kvs ds → ∀ l : List (Key × Dt), ds = l.map (fun p => (keyD p.1, p.2)) → RepA K G kvs l
  | _, _, .nil, l, e => by
    have : l = [] := List.map_eq_nil_iff.mp e.symm
    subst this
    exact .nil
  | _, _, .cons r t, [], e => by cases e
  | _, _, .cons r t, p :: l, e => by
    rw [List.map_cons] at e
    have e1 := (List.cons.inj e).1
    have e2 := (List.cons.inj e).2
    have k1 := keyD_inj (Prod.mk.inj e1).1
    have k2 := (Prod.mk.inj e1).2
    subst k2
    obtain ⟨k, d⟩ := p
    cases k1
    exact .cons r (repA_of' t l e2)
theorem repA_of {kvs : List (Key × V)} {l : List (Key × Dt)} (h : RepK K G kvs (l.map fun p => (keyD p.1, p.2))) : RepA K G kvs l := repA_of' h l rfl
theorem RepA.keys : ∀ {kvs : List (Key × V)} {l : List (Key × Dt)}, RepA K G kvs l → kvs.map (·.1) = l.map (·.1)
  | _, _, .nil => rfl
  | _, _, .cons _ t => by simp [RepA.keys t]
theorem RepA.length {kvs : List (Key × V)} {l : List (Key × Dt)} (h : RepA K G kvs l) : kvs.length = l.length := by
  have := congrArg List.length h.keys
  simpa using this
theorem RepA.mono (g : Same G G') : ∀ {kvs : List (Key × V)} {l : List (Key × Dt)}, RepA K G kvs l → RepA K G' kvs l
  | _, _, .nil => .nil
  | _, _, .cons r t => .cons (r.mono g) (RepA.mono g t)
theorem RepA.get : ∀ {kvs : List (Key × V)} {l : List (Key × Dt)} (k : Key), RepA K G kvs l → (getA l k = none ∧ valV kvs k = none) ∨ ∃ v d, getA l k = some d ∧ valV kvs k = some v ∧ Rep K G v d
  | _, _, k, .nil => .inl ⟨rfl, rfl⟩
  | _, _, k, .cons (k := k') (v := v) (d := d) (kvs := kvs) (l := l) r t => by
    by_cases h : k' = k
    · subst h
      exact .inr ⟨v, d, by simp [getA, List.find?_cons], valV_pos rfl, r⟩
    · rcases RepA.get k t with ⟨h1, h2⟩ | ⟨v, d, h1, h2, h3⟩
      · exact .inl ⟨by simpa [getA, List.find?_cons, h] using h1, by rw [valV_neg h]; exact h2⟩
      · exact .inr ⟨v, d, by simpa [getA, List.find?_cons, h] using h1, by rw [valV_neg h]; exact h2, h3⟩
theorem RepA.any : ∀ {kvs : List (Key × V)} {l : List (Key × Dt)} (k : Key), RepA K G kvs l → (kvs.any fun kv => decide (kv.1 = k)) = hasA l k
  | _, _, _, .nil => rfl
  | _, _, k, .cons r t => by
    have ih := RepA.any k t
    unfold hasA at ih ⊢
    simp only [List.any_cons, ih]
theorem RepA.repl {v : V} {d : Dt} (k : Key) (h : Rep K G v d) : ∀ {kvs : List (Key × V)} {l : List (Key × Dt)}, RepA K G kvs l → RepA K G (kvs.map fun kv => if kv.1 = k then (kv.1, v) else kv) (l.map fun kv => if kv.1 = k then (kv.1, d) else kv)
  | _, _, .nil => .nil
  | _, _, .cons (k := k') r t => by
    simp only [List.map_cons]
    by_cases e : k' = k
    · rw [if_pos e, if_pos e]; exact .cons h (RepA.repl k h t)
    · rw [if_neg e, if_neg e]; exact .cons r (RepA.repl k h t)
theorem RepA.snoc {k : Key} {v : V} {d : Dt} (h : Rep K G v d) : ∀ {kvs : List (Key × V)} {l : List (Key × Dt)}, RepA K G kvs l → RepA K G (kvs ++ [(k, v)]) (l ++ [(k, d)])
  | _, _, .nil => .cons h .nil
  | _, _, .cons r t => .cons r (RepA.snoc h t)
theorem RepA.put {k : Key} {v : V} {d : Dt} (h : Rep K G v d) {kvs : List (Key × V)} {l : List (Key × Dt)} (t : RepA K G kvs l) : RepA K G (putK kvs k v) (putA l k d) := by
  unfold putK putA
  rw [t.any k]
  split
  · exact t.repl k h
  · exact t.snoc h
theorem rep_key {v : V} {k : Key} (h : Rep K G v (keyD k)) : v = kV k := by
  cases k <;> cases h <;> rfl
theorem kd_mark {l : List (Key × Dt)} {x : List (Dt × Dt)} (e : (l.map fun p => (keyD p.1, p.2)) = markE :: x) : False := by
  cases l with
  | nil => cases e
  | cons p l =>
    rw [List.map_cons] at e
    have h := (List.cons.inj e).1
    have h2 := (Prod.mk.inj h).1
    cases hk : p.1 <;> rw [hk] at h2 <;> cases h2
theorem rep_kd {v : V} {l : List (Key × Dt)} (h : Rep K G v (kd l)) : ∃ a o kvs, v = .ref a ∧ G a = some (.frz o (.dK kvs)) ∧ RepA K G kvs l := by
  unfold kd at h
  generalize e : (l.map fun p => (keyD p.1, p.2)) = ds at h
  cases h with
  | dic h1 h2 =>
    subst e
    exact ⟨_, _, _, rfl, h1, repA_of h2⟩
  | dicT h1 h2 => exact (kd_mark e).elim
end
end PD
namespace PD
open PySem PySem.Spec PyProof.Rows L2

section
variable {X : Cx}
/-! ### sorted, of texts, any number of them; of a dict by texts -/
theorem cr_sortSs : CallR X (.builtin "sorted") (fun vs H Q => ∃ (a : Addr) (xs : List Str), vs = [V.ref a] ∧ SqL X.K H a (xs.map V.str) ∧
    ∀ (ys : List Str) (p : Addr), ys.Perm xs → sortedS ys = true → H p = none → Q (.ref p) (upd H p (.lst (ys.map V.str)))) := by
  intro pins s σ H vs us Q I r h
  obtain ⟨a, xs, rfl, hs, q⟩ := h
  obtain ⟨its, rv, hl, hz⟩ := I.list hs
  rw [Vals.ref1 r]
  refine PyProof.Rows.sorted_strsAny hl.isList rv.strs (by rw [← rv.length]; exact hz) fun out ys k1 k2 k3 => ?_
  obtain ⟨ep, hnew⟩ := PyProof.Rows.sortedAll_at s.heap its out
  have small : (ys.map V.str).length ≤ sizeLine := by
    rw [List.length_map, k2.length_eq]
    simpa using hz
  have laid := I.laid (a := s.heap.objs.size + 1) (o := .lst (ys.map V.str)) (t' := s.toks) (h' := PyProof.Rows.sortedAll s.heap its out) (fun _ _ => PyProof.Rows.sortedAll_old) (Nat.le_succ _) ⟨small, out.toList, ep, vals_of_strs k1, hnew⟩
  exact ⟨.ref (s.heap.objs.size + 1), _, laid, rfl, q ys _ k2 k3 (I.hok.fresh (Nat.le_succ _))⟩
theorem strs_by : ∀ {us : List Value} {ks : List Str}, us.length = ks.length → (∀ (j : Nat) (v : Value), us[j]? = some v → ∃ (k : Str) (t : Tok), ks[j]? = some k ∧ v = .str k t) → StrsAre us ks
  | [], [], _, _ => .nil
  | [], _ :: _, h, _ => by simp at h
  | _ :: _, [], h, _ => by simp at h
  | u :: us, k :: ks, h, e => by
    obtain ⟨k', t, e1, e2⟩ := e 0 u rfl
    cases e1
    subst e2
    exact .cons _ _ (strs_by (by simpa using h) fun j v hj => by simpa using e (j + 1) v (by simpa using hj))
theorem cr_sortDS (hcalm : X.calm = true) : CallR X (.builtin "sorted") (fun xs H Q => ∃ (a : Addr) (kvs : List (Key × V)) (ks : List Str), xs = [.ref a] ∧ Rd H a (.dK kvs) ∧ kvs.map (·.1) = ks.map Sum.inr ∧
    ∀ (ys : List Str) (p : Addr), ys.Perm ks → sortedS ys = true → H p = none → Q (.ref p) (upd H p (.lst (ys.map V.str)))) := by
  intro pins s σ H xs us Q I r ⟨a, kvs, ks, ex, hd, hks, q⟩
  subst ex
  rw [Vals.ref1 r]
  obtain ⟨z, lo, vs, rel, dd⟩ := dk_rd I.hok hd
  obtain ⟨ep, hat⟩ := dd.dictAt
  have kk : vs.map (·.1) = ks.map Sum.inr := rel.keys.symm.trans hks
  have kl : vs.length = ks.length := by simpa using congrArg List.length kk
  have kz : vs.length ≤ sizeLine := by rw [← rel.length]; exact z
  refine Calls.call_function_entry PyProof.Rows.kind_sorted PyProof.Rows.plain_sorted PyProof.Rows.entry_sorted (PyProof.Rows.args_sorted1 _) ?_
  unfold Builtin.«sorted»
  refine wpAny_bind (m := checkCount "sorted" 1 1 _) (wpAny_pure (wpAny_bind (PySem.W.kdu_collect (A := X.A.in1) (PySem.W.kdl_dict (knd := mixKind X.prog X.w) (kvs := vs) (ep := ep) lo) (I.ok.hd hcalm) hat kz fun h' tk acc hk hacc => ?_)))
  have al : acc.toList.length = ks.length := by rw [Array.length_toList, hacc.1, kl]
  have sa : StrsAre acc.toList ks := strs_by al fun j v e => by
    obtain ⟨k, x, e1, e2⟩ := hacc.2 j v (by rw [← Array.getElem?_toList]; exact e)
    have e3 : (ks.map Sum.inr)[j]? = some k := by rw [← kk, List.getElem?_map, e1]; rfl
    rw [List.getElem?_map, Option.map_eq_some_iff] at e3
    obtain ⟨y, e4, e5⟩ := e3
    subst e5
    obtain ⟨t, ev⟩ := Value.isStrOf_shape (x := y) (v := v) e2
    exact ⟨y, t, e4, ev⟩
  have I1 : Inv X pins σ H { s with heap := h', toks := tk } := I.kept hk
  have az : acc.toList.length ≤ sizeLine := by rw [al, ← kl]; exact kz
  refine wpAny_bind (wpAny_newList ?_ az)
  have ho := Heap.get?_push_size h' (o := seqObj "list" acc.toList.toArray 0) rfl
  show wpAny _ _ _ _ _ { s with heap := h'.push (seqObj "list" acc.toList.toArray 0), toks := tk }
  refine wpAny_bind (wpAny_holding (wpAny_call_entry PyProof.Rows.slot_list_sort ⟨_, ho, rfl⟩ PyProof.Rows.entry_list_sort
    (list_sort_treeKAny strKind_oneLt (s := { s with heap := h'.push (seqObj "list" acc.toList.toArray 0), toks := tk }) ho sa.keysOf (fun v₁ v₂ rest e => keyKind_strs (by rw [← e]; exact sa)) az fun st' hp hs => ⟨_, rfl, ?_⟩) (PyProof.Rows.args_list_sort _)))
  obtain ⟨ys, g1, g2, g3⟩ := sorted_out_str sa hp hs
  obtain ⟨e', he'⟩ := PyProof.Rows.sortedHeap_at (vs := acc.toList) (out := (arrOf st').map (·.2)) ho
  have yz : (ys.map V.str).length ≤ sizeLine := by
    rw [List.length_map, g2.length_eq, ← al]
    exact az
  have laid := I1.laid (a := h'.objs.size) (o := .lst (ys.map V.str)) (t' := tk) (h' := PyProof.Rows.sortedHeap (h'.push (seqObj "list" acc.toList.toArray 0)) h'.objs.size acc.toList ((arrOf st').map (·.2))) (fun b u e => by
    have hb : b < h'.objs.size := Heap.lt_size e
    rw [PyProof.Rows.sortedHeap_old (Nat.ne_of_lt hb) (by rw [size_push']; exact Nat.lt_succ_of_lt hb)]
    exact Heap.get?_push_of_some _ e) (Nat.le_refl _) ⟨yz, ((arrOf st').map (·.2)).toList, e', vals_of_strs g1, by rw [Array.toArray_toList]; exact he'⟩
  exact wpAny_pure ⟨_, rfl, .ref h'.objs.size, _, laid, rfl, q ys _ g2 g3 (I1.hok.fresh (Nat.le_refl _))⟩
def fSortS : FC := fun ds P => match ds with
  | [.list xs] => ∃ ss, dStrs xs = some ss ∧ ∀ ys : List Str, ys.Perm ss → sortedS ys = true → P (.list (ys.map .str))
  | _ => False
theorem dc_sortS : DC X (.builtin "sorted") fSortS := dc_list1 (one_list fun ds P p => by unfold fSortS at p; split at p <;> simp_all) fun pins s σ H us Q r G a vs xs P I rv S e r1 ⟨ss, hb, p⟩ q => by
  rw [strs_eq hb] at r1
  have e1 := r1.strs
  subst e1
  exact cr_sortSs pins s σ H _ us Q I rv ⟨a, ss, rfl, SqL.of (S.gh _ _ e), fun ys c h1 h2 hc => q _ _ _ _ (p ys h1 h2) (S.lay hc) (.lst upd_same Reps.of_strs)⟩
def strK (ss : List Str) : List (Key × Dt) → Prop := fun l => l.map (·.1) = ss.map Sum.inr
def fSortDS : FC := fun ds P => ∃ l ss, ds = [kd l] ∧ strK ss l ∧ ∀ ys : List Str, ys.Perm ss → sortedS ys = true → P (.list (ys.map .str))
theorem dc_sortDS (hc : X.calm = true) : DC X (.builtin "sorted") fSortDS := by
  intro pins s σ H xs us Q I rv ⟨r, G, ds, P, S, hd, ⟨l, ss, e, hs, p⟩, q⟩
  subst e
  cases hd with
  | cons h1 h2 =>
    cases h2
    obtain ⟨a, o, kvs, rfl, hg, ra⟩ := rep_kd h1
    exact cr_sortDS hc pins s σ H _ us Q I rv ⟨a, kvs, ss, rfl, .inr ⟨o, S.gh _ _ hg⟩, ra.keys.trans hs, fun ys c h1 h2 hc => q _ _ _ _ (p ys h1 h2) (S.lay hc) (.lst upd_same Reps.of_strs)⟩
/-- list(d) -/
def fListD : FC := fun ds P => ∃ l, ds = [kd l] ∧ P (.list (l.map fun p => keyD p.1))
theorem reps_keys {K : Fg} {G : Hp} : ∀ l : List (Key × Dt), ∀ kvs : List (Key × V), RepA K G kvs l → Reps K G (kvs.map fun kv => kV kv.1) (l.map fun p => keyD p.1)
  | _, _, .nil => .nil
  | _, _, .cons (k := k) r t => .cons (by cases k; exact .int _; exact .str _) (reps_keys _ _ t)
theorem dc_listD (hc : X.calm = true) : DC X (.type "list") fListD := by
  intro pins s σ H xs us Q I rv ⟨r, G, ds, P, S, hd, ⟨l, e, p⟩, q⟩
  subst e
  cases hd with
  | cons h1 h2 =>
    cases h2
    obtain ⟨a, o, kvs, rfl, hg, ra⟩ := rep_kd h1
    exact call_listD hc pins s σ H _ us Q I rv ⟨a, kvs, rfl, .inr ⟨o, S.gh _ _ hg⟩, fun c hc => q _ _ _ _ p (S.lay hc) (.lst upd_same ((reps_keys _ _ ra).mono (S.lay hc).g))⟩
end
section
variable {X : Cx} {st : Stmt} {e tg iter c a b k v : Expr} {te ta tb ty tv tk td : PT0} {pos pos' p p0 p1 p2 : Pos} {es : List Expr}
theorem own_kd {K : Fg} {r : Option Addr} {G H : Hp} {σ : L2.St} {ρ : List PV} (E : EnvR K r G H σ ρ) {i : Nat} {l : List (Key × Dt)} (e : ρ[i]? = some (.own (kd l))) : ∃ a kvs, σ[i]? = some (some (.ref a)) ∧ H a = some (.dK kvs) ∧ RepA K G kvs l := by
  obtain ⟨a, h1, _, _, h2⟩ := E.getO e
  unfold kd at h2
  generalize eq : (l.map fun p => (keyD p.1, p.2)) = ds at h2
  cases h2 with
  | dic h3 h4 =>
    subst eq
    exact ⟨a, _, h1, h3, repA_of h4⟩
  | dicT h3 h4 => exact (kd_mark eq).elim
/-- x[k] = e, x a dict of one's own -/
def sPutK (i : Nat) (tk tv : PT0) : PTS := fun P ρ => tv ρ fun y => ∃ l, ρ[i]? = some (.own (kd l)) ∧ tk ρ fun x => ∃ k, x = keyD k ∧ l.length < sizeLine ∧ P.nx (ρ.set i (.own (kd (putA l k y))))
theorem ds_putK (i : Nat) {x : Str} (hu : X.A.units + 1 < cLine) (hk : DE X k tk) (hv : DE X v tv) (hi : X.N[i]? = some x := by rfl) (hvs : Vis X.env.scope x := by first | exact Or.inl rfl | exact Or.inr (Or.inl rfl) | exact Or.inr (Or.inr rfl)) (hd : (x == ("__debug__" : Str)) = false := by decide)
    (hcd : (x == ("__classdict__" : Str)) = false := by decide) (hs : swapsWith v (some (.Subscript (.Name x p0) k p1)) pos.line X.env = pure false := by rfl) : DS X (.Assign [.Subscript (.Name x p0) k p1] v pos) (sPutK i tk tv) :=
  PS.weak (ps_dput hu (pe_var hi hvs hd hcd) hk hv hs) fun Dn σ H ⟨r0, G0, H0, r, G, ρ, P, E, p, q⟩ => ⟨r, G, ρ, _, E.env, p, fun w y G1 H1 ⟨l, el, p1⟩ W1 R1 => by
    have E1 := E.grow W1
    obtain ⟨a, kvs, h1, h2, h3⟩ := own_kd E1.env el
    refine ⟨.ref a, h1, r, G1, ρ, _, E1.env, p1, fun u x G2 H2 ⟨key, ek, hl, p2⟩ W2 R2 => ?_⟩
    have E2 := E1.grow W2
    obtain ⟨a', kvs', h1', h2', h3'⟩ := own_kd E2.env el
    rw [h1] at h1'
    cases h1'
    subst ek
    rw [rep_key R2]
    exact ⟨a, _, rfl, .k h2' (by rw [h3'.length]; exact hl), q.nx _ _ _ _ _ p2 (E2.put el h1 (.dic upd_same (repK_of (h3'.put (R1.mono W2.g)))))⟩⟩
/-- k in x, k not in x: x a dict of one's own -/
def dInO (i : Nat) (n : Bool) (tk : PT0) : PT0 := fun ρ P => tk ρ fun x => ∃ l k, ρ[i]? = some (.own (kd l)) ∧ x = keyD k ∧ P (.bool (n != hasA l k))
theorem get_own {K : Fg} {G H : Hp} {a : Addr} {kvs : List (Key × V)} {l : List (Key × Dt)} (h : Rd H a (.dK kvs)) (r : RepA K G kvs l) (k : Key) : ∃ o, DGet H a (kV k) o ∧ o.isSome = hasA l k := by
  refine ⟨valV kvs k, .inl ⟨kvs, k, h, rfl, rfl⟩, ?_⟩
  rw [hasA_get]
  rcases r.get k with ⟨h1, h2⟩ | ⟨v, d, h1, h2, _⟩
  · rw [h1, h2]; rfl
  · rw [h1, h2]; rfl
theorem de_inO (i : Nat) {x : Str} (hu : X.A.units + 1 < cLine) (hk : DE X k tk) (hi : X.N[i]? = some x := by rfl) (hvs : Vis X.env.scope x := by first | exact Or.inl rfl | exact Or.inr (Or.inl rfl) | exact Or.inr (Or.inr rfl)) (hd : (x == ("__debug__" : Str)) = false := by decide)
    (hcd : (x == ("__classdict__" : Str)) = false := by decide) : DE X (.Compare k [.In] [.Name x p0] pos) (dInO i false tk) :=
  PE.weak (pe_cmp (pc_din hu hk (pe_var hi hvs hd hcd)) (by rfl)) fun σ H Q ⟨r, G, ρ, P, E, p, q⟩ => ⟨r, G, ρ, _, E, p, fun u x G1 H1 ⟨l, key, el, ek, p1⟩ W1 R1 => by
    subst ek
    have E1 := E.grow W1
    obtain ⟨a, kvs, h1, h2, h3⟩ := own_kd E1 el
    rw [rep_key R1]
    obtain ⟨o, ho, hb⟩ := get_own (.inl h2) h3 key
    exact ⟨.ref a, h1, a, o, rfl, ho, by rw [hb]; simpa using q _ _ _ _ p1 W1 (.bl _)⟩⟩
theorem de_notInO (i : Nat) {x : Str} (hu : X.A.units + 1 < cLine) (hk : DE X k tk) (hi : X.N[i]? = some x := by rfl) (hvs : Vis X.env.scope x := by first | exact Or.inl rfl | exact Or.inr (Or.inl rfl) | exact Or.inr (Or.inr rfl)) (hd : (x == ("__debug__" : Str)) = false := by decide)
    (hcd : (x == ("__classdict__" : Str)) = false := by decide) : DE X (.Compare k [.NotIn] [.Name x p0] pos) (dInO i true tk) :=
  PE.weak (pe_cmp (pc_dnotin hu hk (pe_var hi hvs hd hcd)) (by rfl)) fun σ H Q ⟨r, G, ρ, P, E, p, q⟩ => ⟨r, G, ρ, _, E, p, fun u x G1 H1 ⟨l, key, el, ek, p1⟩ W1 R1 => by
    subst ek
    have E1 := E.grow W1
    obtain ⟨a, kvs, h1, h2, h3⟩ := own_kd E1 el
    rw [rep_key R1]
    obtain ⟨o, ho, hb⟩ := get_own (.inl h2) h3 key
    exact ⟨.ref a, h1, a, o, rfl, ho, by rw [hb]; simpa using q _ _ _ _ p1 W1 (.bl _)⟩⟩
/-- .. a dict that is known -/
def dInD (n : Bool) (tk td : PT0) : PT0 := fun ρ P => tk ρ fun x => td ρ fun d => ∃ l k, d = kd l ∧ x = keyD k ∧ P (.bool (n != hasA l k))
theorem de_inD (hu : X.A.units + 1 < cLine) (hk : DE X k tk) (hd : DE X a td) (hm : behindInMarks .In a = false := by rfl) : DE X (.Compare k [.In] [a] pos) (dInD false tk td) :=
  PE.weak (pe_cmp (pc_din hu hk hd) hm) fun σ H Q ⟨r, G, ρ, P, E, p, q⟩ => ⟨r, G, ρ, _, E, p, fun u x G1 H1 p1 W1 R1 => ⟨r, G1, ρ, _, E.grow W1, p1, fun w d G2 H2 ⟨l, key, ed, ek, p2⟩ W2 R2 => by
    subst ek ed
    obtain ⟨c, o', kvs, rfl, hg, ra⟩ := rep_kd R2
    rw [rep_key R1]
    obtain ⟨o, ho, hb⟩ := get_own (.inr ⟨o', W2.gh _ _ hg⟩) ra key
    exact ⟨c, o, rfl, ho, by rw [hb]; simpa using q _ _ _ _ p2 (W1.trans W2) (.bl _)⟩⟩⟩
theorem de_notInD (hu : X.A.units + 1 < cLine) (hk : DE X k tk) (hd : DE X a td) (hm : behindInMarks .NotIn a = false := by rfl) : DE X (.Compare k [.NotIn] [a] pos) (dInD true tk td) :=
  PE.weak (pe_cmp (pc_dnotin hu hk hd) hm) fun σ H Q ⟨r, G, ρ, P, E, p, q⟩ => ⟨r, G, ρ, _, E, p, fun u x G1 H1 p1 W1 R1 => ⟨r, G1, ρ, _, E.grow W1, p1, fun w d G2 H2 ⟨l, key, ed, ek, p2⟩ W2 R2 => by
    subst ek ed
    obtain ⟨c, o', kvs, rfl, hg, ra⟩ := rep_kd R2
    rw [rep_key R1]
    obtain ⟨o, ho, hb⟩ := get_own (.inr ⟨o', W2.gh _ _ hg⟩) ra key
    exact ⟨c, o, rfl, ho, by rw [hb]; simpa using q _ _ _ _ p2 (W1.trans W2) (.bl _)⟩⟩⟩
/-- d[k] -/
def dGetD (td tk : PT0) : PT0 := fun ρ P => td ρ fun d => tk ρ fun x => ∃ l k y, d = kd l ∧ x = keyD k ∧ getA l k = some y ∧ P y
theorem de_getD (hu : X.A.units + 1 < cLine) (hd : DE X a td) (hk : DE X k tk) (hs : NoSl k := by exact fun _ _ => rfl) : DE X (.Subscript a k pos) (dGetD td tk) :=
  PE.weak (pe_dget hu hd hk hs) fun σ H Q ⟨r, G, ρ, P, E, p, q⟩ => ⟨r, G, ρ, _, E, p, fun u d G1 H1 p1 W1 R1 => ⟨r, G1, ρ, _, E.grow W1, p1, fun w x G2 H2 ⟨l, key, y, ed, ek, hy, p2⟩ W2 R2 => by
    subst ek ed
    obtain ⟨c, o', kvs, rfl, hg, ra⟩ := rep_kd (R1.mono W2.g)
    rw [rep_key R2]
    rcases ra.get key with ⟨h1, _⟩ | ⟨v', d', h1, h2, h3⟩
    · rw [hy] at h1; cases h1
    · rw [hy] at h1; cases h1
      exact ⟨c, v', rfl, .inl ⟨kvs, key, .inr ⟨o', W2.gh _ _ hg⟩, rfl, h2.symm⟩, q _ _ _ _ p2 (W1.trans W2) h3⟩⟩⟩
/-- for .. in d -/
def dIterD (te : PT0) : PTI := fun ρ P => te ρ fun d => ∃ l, d = kd l ∧ P (l.map fun p => keyD p.1)
theorem repA_at {K : Fg} {G : Hp} : ∀ {kvs : List (Key × V)} {l : List (Key × Dt)} {i : Nat} {k : Key} {v : V}, RepA K G kvs l → kvs[i]? = some (k, v) → ∃ d, l[i]? = some (k, d)
  | _, _, _, _, _, .nil, e => by simp at e
  | _, _, 0, _, _, .cons _ _, e => by simp at e; exact ⟨_, by simp [e.1]; rfl⟩
  | _, _, i + 1, _, _, .cons _ t, e => by
    obtain ⟨d, h⟩ := repA_at (i := i) t (by simpa using e)
    exact ⟨d, by simpa using h⟩
theorem itr_dict {K : Fg} {G : Hp} {a : Addr} {o : Obj} {kvs : List (Key × V)} {l : List (Key × Dt)} (hg : G a = some (.frz o (.dK kvs))) (R : RepA K G kvs l) (hz : l.length ≤ sizeLine) : ItR K G (Itk a o kvs) (l.map fun p => keyD p.1) := by
  refine ⟨by simpa using hz, fun H => H a = some (.frz o (.dK kvs)), fun i H x H' => H' = H ∧ ∃ k v, kvs[i]? = some (k, v) ∧ x = kV k, ?_, fun H g => g _ _ hg, fun i H v H' x Gc r g S hx hy => ?_⟩
  · rw [List.length_map, ← R.length]
    exact walk_keys
  · obtain ⟨h1, k, w, h2, h3⟩ := hy
    subst h1 h3
    obtain ⟨d, e⟩ := repA_at R h2
    rw [List.getElem?_map, e] at hx
    cases hx
    refine ⟨Gc, S.grow, ?_⟩
    cases k
    · exact .int _
    · exact .str _
theorem pe_small {X : Cx} {e : Expr} {t : TE} (h : PE X e t) : PE X e (fun σ H Q => t σ H fun v H' => (∀ a o kvs, v = .ref a → H' a = some (.frz o (.dK kvs)) → kvs.length ≤ sizeLine) → Q v H') :=
  ⟨fun pins s σ H Q I q => thn (h.run pins s σ H _ I q) fun u s' ⟨v, H', I', rv, k⟩ => ⟨v, H', I', rv, k fun a o kvs _ e => (dk_rd I'.hok (.inr ⟨o, e⟩)).1⟩⟩
theorem di_dict (he : DE X e te) : DI X tg e (dIterD te) := PI.weak (pi_keys (pe_small he)) fun σ H R ⟨r, G, ρ, P, E, p, q⟩ => by
  refine ⟨r, G, ρ, _, E, p, fun v d G1 H1 ⟨l, ed, p1⟩ W1 R1 small => ?_⟩
  subst ed
  obtain ⟨c, o', kvs, rfl, hg, ra⟩ := rep_kd R1
  have hz : l.length ≤ sizeLine := by
    rw [← ra.length]
    exact small c o' kvs rfl (W1.gh _ _ hg)
  exact ⟨c, o', rfl, .inl ⟨kvs, W1.gh _ _ hg, q _ _ _ _ p1 W1 (itr_dict hg ra hz)⟩⟩
end
end PD
namespace PD
open PySem PySem.Spec PyProof.Rows L2
/-- list(text): its signs -/
def fListS : FC := fun ds P => ∃ z : Str, ds = [.str z] ∧ z.cps.size ≤ sizeLine ∧ P (.list (signs z))
theorem vals_signs {z : Str} : ∀ (l : List Nat) (us : List Value), us.length = l.length → (∀ (j : Nat) (v : Value), us[j]? = some v → ∃ (c : Nat) (t : Tok), l[j]? = some c ∧ v = .str ⟨#[c]⟩ t) → Vals (l.map fun c => V.str ⟨#[c]⟩) us
  | [], [], _, _ => .nil
  | [], _ :: _, h, _ => by simp at h
  | _ :: _, [], h, _ => by simp at h
  | c :: l, u :: us, h, e => by
    obtain ⟨c', t, e1, e2⟩ := e 0 u rfl
    cases e1
    subst e2
    exact .cons ⟨t, rfl⟩ (vals_signs (z := z) l us (by simpa using h) fun j v hj => by simpa using e (j + 1) v (by simpa using hj))
theorem reps_signs {K : Fg} {G : Hp} : ∀ l : List Nat, Reps K G (l.map fun c => V.str ⟨#[c]⟩) (l.map fun c => .str ⟨#[c]⟩)
  | [] => .nil
  | _ :: l => .cons (.str _) (reps_signs l)
theorem dc_listS {X : Cx} (hc : X.calm = true) : DC X (.type "list") fListS := by
  intro pins s σ H xs us Q I rv ⟨r, G, ds, P, S, hd, ⟨z, e, hz, p⟩, q⟩
  subst e
  cases hd with
  | cons h1 h2 =>
    cases h2; cases h1
    obtain ⟨u, rfl, t, rfl⟩ : ∃ u, us = [u] ∧ ∃ t, u = Value.str z t := by
      cases rv with
      | cons a b => cases b; obtain ⟨t, e⟩ := a; exact ⟨_, rfl, t, e⟩
    refine call_list_str (I.ok.hd hc) z t (fun h' tk acc c' hk hS hacc => ?_) hz
    have hv : Vals (z.cps.toList.map fun c => V.str ⟨#[c]⟩) acc.toList := vals_signs (z := z) _ _ (by simpa using hacc.1) fun j v hj => by
      obtain h := hacc.2 j v (by simpa using hj)
      obtain ⟨c, t', h1, h2⟩ := h
      exact ⟨c, t', by simpa using h1, h2⟩
    have lz : (z.cps.toList.map fun c => V.str ⟨#[c]⟩).length ≤ sizeLine := by simpa using hz
    have fr := I.hok.fresh (Nat.le_refl s.heap.objs.size)
    refine ⟨.ref s.heap.objs.size, upd H s.heap.objs.size (.lst (z.cps.toList.map fun c => V.str ⟨#[c]⟩)), I.laid (t' := tk) hk (Nat.le_refl _) ⟨lz, acc.toList, c', hv, by rw [Array.toArray_toList]; exact hS⟩, rfl, ?_⟩
    exact q _ _ _ _ p (S.lay fr) (.lst upd_same (reps_signs _))
section
variable {X : Cx} {pos p p0 : Pos}
/-- list(x), x a dict of one's own -/
def dListO (i : Nat) : PT0 := fun ρ P => ∃ l, ρ[i]? = some (.own (kd l)) ∧ P (.list (l.map fun p => keyD p.1))
theorem de_listO (i : Nat) {x : Str} (hc : X.calm = true) (hm : X.mg "list" = none) (hi : X.N[i]? = some x := by rfl) (hvs : Vis X.env.scope x := by first | exact Or.inl rfl | exact Or.inr (Or.inl rfl) | exact Or.inr (Or.inr rfl)) (hg : Gl X "list" := by rfl) (hd : (x == ("__debug__" : Str)) = false := by decide)
    (hcd : (x == ("__classdict__" : Str)) = false := by decide) (he : starEach [.Name x p0] X.env = (false, eval (.Name x p0) X.env) :: starEach [] X.env := by rfl) (hpl : (backTo pos (starEach [] X.env)).any (·.1) = false := by rfl) (hv : bootBuiltins "list" = some (.type "list") := by decide +kernel) :
    DE X (.Call (.Name "list" p) [.Name x p0] [] pos) (dListO i) := PE.weak (pe_callTy (call_listD hc) hg hm hv (pa_cons (pe_var hi hvs hd hcd) pa_nil he) (he := he) (hpl := hpl)) fun σ H Q ⟨r, G, ρ, P, E, ⟨l, e, p⟩, q⟩ => by
  obtain ⟨a, kvs, h1, h2, h3⟩ := own_kd E e
  exact ⟨.ref a, h1, a, kvs, rfl, .inl h2, fun c hc => q _ _ _ _ p (E.st.lay hc) (.lst upd_same ((reps_keys _ _ h3).mono (E.st.lay hc).g))⟩
end
end PD
namespace PD
open PySem PySem.Spec PyProof.Rows L2
section
variable {X : Cx} {st : Stmt} {e tg iter c a b k v : Expr} {te ta tb ty tv tk td : PT0} {pos pos' p p0 p1 p2 : Pos} {es : List Expr}
/-! ### k in x, as a test -/
theorem dt_inO (i : Nat) {x : Str} (hu : X.A.units + 1 < cLine) (hk : DE X k tk) (hi : X.N[i]? = some x := by rfl) (hvs : Vis X.env.scope x := by first | exact Or.inl rfl | exact Or.inr (Or.inl rfl) | exact Or.inr (Or.inr rfl)) (hd : (x == ("__debug__" : Str)) = false := by decide)
    (hcd : (x == ("__classdict__" : Str)) = false := by decide) : DT X (.Compare k [.In] [.Name x p0] pos) (dTest (dInO i false tk)) :=
  PT.weak (pt_cmp (pc_din hu hk (pe_var hi hvs hd hcd)) (by rfl)) fun σ H Q h0 => let ⟨r, G, ρ, P, E, p, q⟩ := lift_test h0; ⟨r, G, ρ, _, E, p, fun u x G1 H1 ⟨l, key, el, ek, p1⟩ W1 R1 => by
    subst ek
    have E1 := E.grow W1
    obtain ⟨a, kvs, h1, h2, h3⟩ := own_kd E1 el
    rw [rep_key R1]
    obtain ⟨o, ho, hb⟩ := get_own (.inl h2) h3 key
    exact ⟨.ref a, h1, a, o, rfl, ho, by rw [hb]; simpa using q _ _ _ _ p1 W1 (.bl _)⟩⟩
theorem dt_notInO (i : Nat) {x : Str} (hu : X.A.units + 1 < cLine) (hk : DE X k tk) (hi : X.N[i]? = some x := by rfl) (hvs : Vis X.env.scope x := by first | exact Or.inl rfl | exact Or.inr (Or.inl rfl) | exact Or.inr (Or.inr rfl)) (hd : (x == ("__debug__" : Str)) = false := by decide)
    (hcd : (x == ("__classdict__" : Str)) = false := by decide) : DT X (.Compare k [.NotIn] [.Name x p0] pos) (dTest (dInO i true tk)) :=
  PT.weak (pt_cmp (pc_dnotin hu hk (pe_var hi hvs hd hcd)) (by rfl)) fun σ H Q h0 => let ⟨r, G, ρ, P, E, p, q⟩ := lift_test h0; ⟨r, G, ρ, _, E, p, fun u x G1 H1 ⟨l, key, el, ek, p1⟩ W1 R1 => by
    subst ek
    have E1 := E.grow W1
    obtain ⟨a, kvs, h1, h2, h3⟩ := own_kd E1 el
    rw [rep_key R1]
    obtain ⟨o, ho, hb⟩ := get_own (.inl h2) h3 key
    exact ⟨.ref a, h1, a, o, rfl, ho, by rw [hb]; simpa using q _ _ _ _ p1 W1 (.bl _)⟩⟩
theorem dt_inD (hu : X.A.units + 1 < cLine) (hk : DE X k tk) (hd : DE X a td) (hm : behindInMarks .In a = false := by rfl) : DT X (.Compare k [.In] [a] pos) (dTest (dInD false tk td)) :=
  PT.weak (pt_cmp (pc_din hu hk hd) hm) fun σ H Q h0 => let ⟨r, G, ρ, P, E, p, q⟩ := lift_test h0; ⟨r, G, ρ, _, E, p, fun u x G1 H1 p1 W1 R1 => ⟨r, G1, ρ, _, E.grow W1, p1, fun w d G2 H2 ⟨l, key, ed, ek, p2⟩ W2 R2 => by
    subst ek ed
    obtain ⟨c, o', kvs, rfl, hg, ra⟩ := rep_kd R2
    rw [rep_key R1]
    obtain ⟨o, ho, hb⟩ := get_own (.inr ⟨o', W2.gh _ _ hg⟩) ra key
    exact ⟨c, o, rfl, ho, by rw [hb]; simpa using q _ _ _ _ p2 (W1.trans W2) (.bl _)⟩⟩⟩
theorem dt_notInD (hu : X.A.units + 1 < cLine) (hk : DE X k tk) (hd : DE X a td) (hm : behindInMarks .NotIn a = false := by rfl) : DT X (.Compare k [.NotIn] [a] pos) (dTest (dInD true tk td)) :=
  PT.weak (pt_cmp (pc_dnotin hu hk hd) hm) fun σ H Q h0 => let ⟨r, G, ρ, P, E, p, q⟩ := lift_test h0; ⟨r, G, ρ, _, E, p, fun u x G1 H1 p1 W1 R1 => ⟨r, G1, ρ, _, E.grow W1, p1, fun w d G2 H2 ⟨l, key, ed, ek, p2⟩ W2 R2 => by
    subst ek ed
    obtain ⟨c, o', kvs, rfl, hg, ra⟩ := rep_kd R2
    rw [rep_key R1]
    obtain ⟨o, ho, hb⟩ := get_own (.inr ⟨o', W2.gh _ _ hg⟩) ra key
    exact ⟨c, o, rfl, ho, by rw [hb]; simpa using q _ _ _ _ p2 (W1.trans W2) (.bl _)⟩⟩⟩

/-- x, y = [m], [n], cells -/
theorem ds_own2c (i j : Nat) {x y : Str} {m n : Int} {px py pt pa1 pa2 pc1 pc2 : Pos} {kt k2 kc1 kc2 pt2} (hc : X.calm = true) (hN : X.N.Nodup) (hi : X.N[i]? = some x := by rfl) (hj : X.N[j]? = some y := by rfl) (hij : i ≠ j := by decide)
    (hx : Loc X.env.scope x := by first | exact Or.inl rfl | exact Or.inr rfl) (hy : Loc X.env.scope y := by first | exact Or.inl rfl | exact Or.inr rfl)
    (fx : X.fn x = true ∨ X.env.scope.names.lookup x = some .local := by first | exact .inl rfl | exact .inr rfl) (fy : X.fn y = true ∨ X.env.scope.names.lookup y = some .local := by first | exact .inl rfl | exact .inr rfl)
    (hw : swappedStores [.Tuple [.Name x px, .Name y py] kt pt] (.Tuple [.List [.Constant (.int m) kc1 pc1] pa1, .List [.Constant (.int n) kc2 pc2] pa2] k2 pt2) X.env = pure none := by rfl)
    (hs : swapsWithSole [.Tuple [.Name x px, .Name y py] kt pt] (.Tuple [.List [.Constant (.int m) kc1 pc1] pa1, .List [.Constant (.int n) kc2 pc2] pa2] k2 pt2) pos.line X.env = pure false := by rfl)
    (h0 : (assignEach [.Tuple [.Name x px, .Name y py] kt pt] X.env).map (·.2) = [assign (.Tuple [.Name x px, .Name y py] kt pt) X.env] := by rfl)
    (h1 : starEach [.List [.Constant (.int m) kc1 pc1] pa1, .List [.Constant (.int n) kc2 pc2] pa2] X.env = (false, eval (.List [.Constant (.int m) kc1 pc1] pa1) X.env) :: starEach [.List [.Constant (.int n) kc2 pc2] pa2] X.env := by rfl)
    (h2 : starEach [.List [.Constant (.int n) kc2 pc2] pa2] X.env = (false, eval (.List [.Constant (.int n) kc2 pc2] pa2) X.env) :: starEach [] X.env := by rfl)
    (h3 : starEach [.Constant (.int m) kc1 pc1] X.env = (false, eval (.Constant (.int m) kc1 pc1) X.env) :: starEach [] X.env := by rfl) (h4 : starEach [.Constant (.int n) kc2 pc2] X.env = (false, eval (.Constant (.int n) kc2 pc2) X.env) :: starEach [] X.env := by rfl)
    (a1 : (assignEach [.Name x px, .Name y py] X.env).map (·.2) = assign (.Name x px) X.env :: (assignEach [.Name y py] X.env).map (·.2) := by rfl) (a2 : (assignEach [.Name y py] X.env).map (·.2) = assign (.Name y py) X.env :: (assignEach [] X.env).map (·.2) := by rfl)
    (a3 : (assignEach [.Name x px, .Name y py] X.env).length = 2 := by rfl) (a4 : (assignEach [.Name x px, .Name y py] X.env).findIdx? (·.1) = none := by rfl) :
    DS X (.Assign [.Tuple [.Name x px, .Name y py] kt pt] (.Tuple [.List [.Constant (.int m) kc1 pc1] pa1, .List [.Constant (.int n) kc2 pc2] pa2] k2 pt2) pos) (sOwn2 i j m n) :=
  PS.weak (ps_asg (pe_tup (pa_cons (pe_lst (pa_cons pe_int pa_nil h3)) (pa_cons (pe_lst (pa_cons pe_int pa_nil h4)) pa_nil h2) h1)) (pg_tup hc (pgs_cons (pg_name hN hi hx fx) (pgs_cons (pg_name hN hj hy fy) pgs_nil a2) a1) a3 a4) hs hw h0) fun Dn σ H ⟨r0, G0, H0, r, G, ρ, P, E, ⟨li, lj, p⟩, q⟩ =>
    ⟨by show 1 ≤ sizeLine; decide, fun c hc => ⟨by show 1 ≤ sizeLine; decide, fun d hd => ⟨by show 2 ≤ sizeLine; decide, fun f hf => ⟨f, _, rfl, .inl (.inl upd_same), rfl, _, _, rfl, _, _, rfl, rfl, by
      have E1 := E.take (i := i) hc (.lst upd_same (.cons (.int m) .nil)) li
      have E2 := E1.take (i := j) hd (.lst upd_same (.cons (.int n) .nil)) (by simpa using lj)
      have W := E2.env.st.lay (o := .tup [.ref c, .ref d]) hf
      exact q.nx _ _ _ _ _ p (E2.grow W)⟩⟩⟩⟩
/-- tuple(x), x a list of one's own -/
def dTupO (i : Nat) : PT0 := fun ρ P => ∃ l, ρ[i]? = some (.own (.list l)) ∧ P (.tuple l)
theorem de_tupO (i : Nat) {x : Str} (hm : X.mg "tuple" = none) (hi : X.N[i]? = some x := by rfl) (hvs : Vis X.env.scope x := by first | exact Or.inl rfl | exact Or.inr (Or.inl rfl) | exact Or.inr (Or.inr rfl)) (hg : Gl X "tuple" := by rfl) (hd : (x == ("__debug__" : Str)) = false := by decide)
    (hcd : (x == ("__classdict__" : Str)) = false := by decide) (he : starEach [.Name x p0] X.env = (false, eval (.Name x p0) X.env) :: starEach [] X.env := by rfl) (hpl : (backTo pos (starEach [] X.env)).any (·.1) = false := by rfl) (hv : bootBuiltins "tuple" = some (.type "tuple") := by decide +kernel) :
    DE X (.Call (.Name "tuple" p) [.Name x p0] [] pos) (dTupO i) := PE.weak (pe_callTy call_tuple_of hg hm hv (pa_cons (pe_var hi hvs hd hcd) pa_nil he) (he := he) (hpl := hpl)) fun σ H Q ⟨r, G, ρ, P, E, ⟨l, e, p⟩, q⟩ => by
  obtain ⟨a, vs, h1, h2, h3⟩ := own_in E e
  refine ⟨.ref a, h1, _, _, rfl, .inl ⟨SqL.of h2, fun c hc => ?_⟩⟩
  exact q _ _ _ _ p (E.st.lay hc) (.tup upd_same (h3.mono (E.st.lay hc).g))
/-- x, y = [], None -/
def sOwnN (i j : Nat) : PTS := fun P ρ => i < ρ.length ∧ j < ρ.length ∧ P.nx ((ρ.set i (.own (.list []))).set j (.d .none))
theorem ds_ownN (i j : Nat) {x y : Str} {px py pt pa1 pc2 : Pos} {kt k2 kc2 pt2} (hc : X.calm = true) (hN : X.N.Nodup) (hi : X.N[i]? = some x := by rfl) (hj : X.N[j]? = some y := by rfl) (hij : i ≠ j := by decide)
    (hx : X.env.scope.names.lookup x = some .local := by rfl) (hy : X.env.scope.names.lookup y = some .local := by rfl)
    (hw : swappedStores [.Tuple [.Name x px, .Name y py] kt pt] (.Tuple [.List [] pa1, .Constant .none kc2 pc2] k2 pt2) X.env = pure (some [x, y]) := by rfl)
    (hs : swapsWithSole [.Tuple [.Name x px, .Name y py] kt pt] (.Tuple [.List [] pa1, .Constant .none kc2 pc2] k2 pt2) pos.line X.env = pure false := by rfl)
    (h1 : starEach [.List [] pa1, .Constant .none kc2 pc2] X.env = (false, eval (.List [] pa1) X.env) :: starEach [.Constant .none kc2 pc2] X.env := by rfl)
    (h2 : starEach [.Constant .none kc2 pc2] X.env = (false, eval (.Constant .none kc2 pc2) X.env) :: starEach [] X.env := by rfl) :
    DS X (.Assign [.Tuple [.Name x px, .Name y py] kt pt] (.Tuple [.List [] pa1, .Constant .none kc2 pc2] k2 pt2) pos) (sOwnN i j) :=
  PS.weak (ps_par hc hN hi hj hij hx hy (pa_cons (pe_lst pa_nil) (pa_cons pe_non pa_nil h2) h1) hw hs) fun Dn σ H ⟨r0, G0, H0, r, G, ρ, P, E, ⟨li, lj, p⟩, q⟩ =>
    ⟨Nat.zero_le _, fun c hc => ⟨_, _, rfl, by
      have E1 := E.take (i := i) hc (.lst upd_same .nil) li
      exact q.nx _ _ _ _ _ p (E1.setP (i := j) (p := .d .none) ⟨_, rfl, .non⟩ fun _ z => nomatch z)⟩⟩
/-- x, y, z = a, b, [] -/
def sPar3O (i j l : Nat) (ta tb : PT0) : PTS := fun P ρ => ta ρ fun v => tb ρ fun w => l < ρ.length ∧ P.nx (((ρ.set i (.d v)).set j (.d w)).set l (.own (.list [])))
theorem ds_par3O (i j l : Nat) {x y z : Str} {px py pz pt pa1 : Pos} {kt k2 pt2} (hc : X.calm = true) (hN : X.N.Nodup) (ha : DE X a ta) (hb : DE X b tb) (hi : X.N[i]? = some x := by rfl) (hj : X.N[j]? = some y := by rfl) (hl : X.N[l]? = some z := by rfl)
    (hij : i ≠ j := by decide) (hil : i ≠ l := by decide) (hjl : j ≠ l := by decide)
    (hx : X.env.scope.names.lookup x = some .local := by rfl) (hy : X.env.scope.names.lookup y = some .local := by rfl) (hz : X.env.scope.names.lookup z = some .local := by rfl)
    (hw : swappedStores [.Tuple [.Name x px, .Name y py, .Name z pz] kt pt] (.Tuple [a, b, .List [] pa1] k2 pt2) X.env = pure (some [x, y, z]) := by rfl)
    (hs : swapsWithSole [.Tuple [.Name x px, .Name y py, .Name z pz] kt pt] (.Tuple [a, b, .List [] pa1] k2 pt2) pos.line X.env = pure false := by rfl)
    (h1 : starEach [a, b, .List [] pa1] X.env = (false, eval a X.env) :: starEach [b, .List [] pa1] X.env := by rfl)
    (h2 : starEach [b, .List [] pa1] X.env = (false, eval b X.env) :: starEach [.List [] pa1] X.env := by rfl)
    (h3 : starEach [.List [] pa1] X.env = (false, eval (.List [] pa1) X.env) :: starEach [] X.env := by rfl) :
    DS X (.Assign [.Tuple [.Name x px, .Name y py, .Name z pz] kt pt] (.Tuple [a, b, .List [] pa1] k2 pt2) pos) (sPar3O i j l ta tb) :=
  PS.weak (ps_par3 hc hN hi hj hl hij hil hjl hx hy hz (pa_cons ha (pa_cons hb (pa_cons (pe_lst pa_nil) pa_nil h3) h2) h1) hw hs) fun Dn σ H ⟨r0, G0, H0, r, G, ρ, P, E, p, q⟩ =>
    ⟨r, G, ρ, _, E.env, p, fun v dv G1 H1 p1 W1 R1 => ⟨r, G1, ρ, _, (E.grow W1).env, p1, fun w dw G2 H2 ⟨ll, p2⟩ W2 R2 => ⟨Nat.zero_le _, fun c hc => ⟨_, _, _, rfl, by
      have E2 := (E.grow W1).grow W2
      have E3 := E2.setP (i := i) (p := .d dv) ⟨_, rfl, R1.mono W2.g⟩ fun _ z => nomatch z
      have E4 := E3.setP (i := j) (p := .d dw) ⟨_, rfl, R2⟩ fun _ z => nomatch z
      have E5 := E4.take (i := l) hc (.lst upd_same .nil) (by simpa using ll)
      exact q.nx _ _ _ _ _ p2 E5⟩⟩⟩⟩
end
end PD
namespace PD
open PySem PySem.Spec PyProof.Rows L2
theorem list_extend_tup (l : Addr) (items : Array Value) (n : Nat) (b : Addr) (items2 : Array Value) (n2 : Nat) (dd : Option Addr) (sl : Array (Option Value)) (hs0 : ¬(!items.isEmpty && Builtin.List.listTooLong (items.size + items2.size)) = true) (hs1 : items.size ≤ sizeLine) (hs2 : items.size + items2.size ≤ sizeLine + 1) :
    Meets (Builtin.«list.extend» ⟨[.ref l, .ref b], []⟩) (fun _ R s => s.heap.get? l = some { cls := .type "list", dict := none, data := .seq items n, slots := #[] } ∧ s.heap.get? b = some { cls := .type "tuple", dict := dd, data := .seq items2 n2, slots := sl } ∧ R (.ok (.ret Value.none)) { s with heap := s.heap.update l (Obj.mapSeq fun x => x ++ items2), toks := s.toks }) :=
  .of_wp fun prog w A R s h => by
    obtain ⟨hp, g, d, tk, os⟩ := s; obtain ⟨hl, hb, h⟩ := h
    have f1 := AutoSeq1.idx_int; have f2 := AutoSeq1.sub_tuple_tuple; have f3 := AutoSeq1.sub_list_list; have f4 := AutoSeq1.sub_tuple_list; have f5 := AutoSeq1.sub_list_tuple
    have hz' : (items ++ items2).size ≤ sizeLine + 1 := by rw [Array.size_append]; exact hs2
    wp_walk using (wpAny_updateSeq hl rfl (hz := hs1) (_hz' := hz')), wpAny_loadPart' hl, wpAny_loadPart' hb; exact ⟨_, rfl, h⟩
section
variable {X : Cx}
def rExtendT (K : PySem.W.Frag) : V → List V → Hp → VK → Prop := fun x vs H Q => ∃ l b xs zs, x = .ref l ∧ vs = [.ref b] ∧ H l = some (.lst xs) ∧ SqT K H b zs ∧ xs.length + zs.length ≤ sizeLine ∧ Q .non (upd H l (.lst (xs ++ zs)))
theorem mt_extendT : MtR X "list.extend" (rExtendT X.K) := by
  intro pins s σ H x vs v us Q I rx rv h
  obtain ⟨l, b, xs, zs, rfl, rfl, hH, hB, hz, q⟩ := h
  cases rx
  obtain ⟨u, rfl, ru⟩ := rv.one
  cases ru
  obtain ⟨z, its, n, r, hl, e⟩ := I.lstM hH
  obtain ⟨its2, r2, ⟨o, ho, hcl, n2, hd⟩, hz2⟩ := I.tuple hB
  obtain ⟨cls, dd, data, sl⟩ := o
  cases hcl
  cases hd
  have hl2 : zs.length = its2.length := r2.length
  have hsz : its.toArray.size + its2.toArray.size ≤ sizeLine := by rw [List.size_toArray, List.size_toArray]; omega
  have hlong : ¬ (!its.toArray.isEmpty && Builtin.List.listTooLong (its.toArray.size + its2.toArray.size)) = true := by
    rw [notLongL hsz, Bool.and_false]
    exact Bool.false_ne_true
  refine call_meets F.slot_list_extend ⟨_, e, rfl⟩ F.entry_list_extend (F.args_list_extend_2 _ _)
    (list_extend_tup l its.toArray n b its2.toArray n2 dd sl hlong (by rw [List.size_toArray]; omega) (by omega)) ⟨e, ho, ?_⟩
  refine ⟨.non, _, I.lset (its' := its ++ its2) hH e (by simp) (r.append r2) ?_, rfl, q⟩
  rw [List.length_append]
  omega
end
section
variable {X : Cx} {st : Stmt} {e tg iter c a b k v : Expr} {te ta tb ty tv tk td : PT0} {pos pos' p p0 p1 p2 : Pos} {es : List Expr}
/-- x.extend(e), e a tuple -/
def sExtT (i : Nat) (te : PT0) : PTS := fun P ρ => ∃ xs, ρ[i]? = some (.own (.list xs)) ∧ te ρ fun y => ∃ ys, y = .tuple ys ∧ xs.length + ys.length ≤ sizeLine ∧ P.nx (ρ.set i (.own (.list (xs ++ ys))))
theorem ds_extT (i : Nat) {x : Str} {p0 apos cpos : Pos} (he : DE X e te) (hi : X.N[i]? = some x := by rfl) (hv : Vis X.env.scope x := by first | exact Or.inl rfl | exact Or.inr (Or.inl rfl) | exact Or.inr (Or.inr rfl)) (hd : (x == ("__debug__" : Str)) = false := by decide)
    (hcd : (x == ("__classdict__" : Str)) = false := by decide) (hs : starEach (e :: []) X.env = (false, eval e X.env) :: starEach [] X.env := by rfl) (hbase : attributeBase (.Name x p0) "extend" X.env (eval (.Name x p0) X.env) = eval (.Name x p0) X.env := by rfl)
    (hfew : ((backTo cpos (starEach (e :: []) X.env)).all (fun x => !x.1) && (backToKw cpos (keywordEach [] X.env)).all (fun x => x.1.isSome) && decide ((e :: ([] : List Expr)).length + ([] : List Keyword).length + (if ([] : List Keyword).isEmpty then 0 else 1) < 30)) = true := by rfl)
    (hline : (apos.endLine == cpos.line) = true := by rfl) (hplain : (backTo cpos (starEach [] X.env)).any (·.1) = false := by rfl) (hsw : swapsWith (.Call (.Attribute (.Name x p0) "extend" apos) [e] [] cpos) none pos.line X.env = pure false := by rfl) :
    DS X (.Expr (.Call (.Attribute (.Name x p0) "extend" apos) [e] [] cpos) pos) (sExtT i te) :=
  PS.weak (ps_expr (pe_bm PySem.F.plainAttrs_list PySem.F.slot_list_extend PySem.F.type_list_extend mt_extendT (pe_var hi hv hd hcd) (pa_cons he pa_nil hs) hbase hfew hline hs hplain) hsw) fun Dn σ H ⟨r0, G0, H0, r, G, ρ, P, E, ⟨xs, ex, p⟩, q⟩ => by
    obtain ⟨a, vs, h1, h2, h3⟩ := own_in E.env ex
    refine ⟨.ref a, h1, .inl ⟨rfl, _, SqL.of h2⟩, r, G, ρ, _, E.env, p, fun v y G1 H1 ⟨ys, ey, p1, p2⟩ W R => ?_⟩
    have E1 := E.grow W
    obtain ⟨a', vs', h1', h2', h3'⟩ := own_in E1.env ex
    rw [h1] at h1'
    cases h1'
    subst ey
    cases R with
    | tup e4 r4 => exact ⟨a, _, vs', _, rfl, rfl, h2', same_seqP W.gh e4, by rw [h3'.length, r4.length]; exact p1, q.nx _ _ _ _ _ p2 (E1.put ex h1 (.lst upd_same (h3'.append r4)))⟩
theorem reps_snoc {K : Fg} {G : Hp} : ∀ {vs : List V} {xs : List Dt} {y : Dt}, Reps K G vs (xs ++ [y]) → ∃ vs' u, vs = vs' ++ [u] ∧ Reps K G vs' xs ∧ Rep K G u y
  | _, [], y, h => by
    cases h with
    | cons a b =>
      cases b
      exact ⟨[], _, rfl, .nil, a⟩
  | _, x :: xs, y, h => by
    cases h with
    | cons a b =>
      obtain ⟨vs', u, rfl, h1, h2⟩ := reps_snoc b
      exact ⟨_ :: vs', u, rfl, .cons a h1, h2⟩
/-- x = y.pop() -/
def sPop (i j : Nat) : PTS := fun P ρ => ∃ xs y, ρ[i]? = some (.own (.list (xs ++ [y]))) ∧ i ≠ j ∧ P.nx ((ρ.set i (.own (.list xs))).set j (.d y))
theorem ds_pop (i j : Nat) {x y : Str} {py p0 apos cpos : Pos} (hN : X.N.Nodup) (hi : X.N[i]? = some x := by rfl) (hj : X.N[j]? = some y := by rfl) (hv : Vis X.env.scope x := by first | exact Or.inl rfl | exact Or.inr (Or.inl rfl) | exact Or.inr (Or.inr rfl)) (hd : (x == ("__debug__" : Str)) = false := by decide)
    (hcd : (x == ("__classdict__" : Str)) = false := by decide) (hy : Loc X.env.scope y := by first | exact Or.inl rfl | exact Or.inr rfl)
    (hbase : attributeBase (.Name x p0) "pop" X.env (eval (.Name x p0) X.env) = eval (.Name x p0) X.env := by rfl)
    (hline : (apos.endLine == cpos.line) = true := by rfl) (hs : swapsWith (.Call (.Attribute (.Name x p0) "pop" apos) [] [] cpos) (some (.Name y py)) pos.line X.env = pure false := by rfl)
    (hf : X.fn y = true ∨ X.env.scope.names.lookup y = some .local := by first | exact .inl rfl | exact .inr rfl) :
    DS X (.Assign [.Name y py] (.Call (.Attribute (.Name x p0) "pop" apos) [] [] cpos) pos) (sPop i j) :=
  PS.weak (ps_set hN hj hy (pe_bm0 PySem.F.plainAttrs_list PySem.F.slot_list_pop PySem.F.type_list_pop mt_pop (pe_var hi hv hd hcd) hbase hline) hs hf) fun Dn σ H ⟨r0, G0, H0, r, G, ρ, P, E, ⟨xs, y, ex, ij, p⟩, q⟩ => by
    obtain ⟨a, vs, h1, h2, h3⟩ := own_in E.env ex
    obtain ⟨vs', u, rfl, r1, r2⟩ := reps_snoc h3
    refine ⟨.ref a, h1, .inl ⟨rfl, _, SqL.of h2⟩, a, _, u, rfl, rfl, h2, by simp, ?_⟩
    rw [List.dropLast_concat]
    have E1 := E.put ex h1 (o := .lst vs') (y := .list xs) (.lst upd_same r1)
    have E2 := E1.setP (i := j) (o := some u) (p := .d y) ⟨_, rfl, r2⟩ fun _ z => nomatch z
    exact q.nx _ _ _ _ _ p E2
/-- while x: x a list of one's own -/
def dTruO (i : Nat) : PTT := fun ρ P => ∃ xs, ρ[i]? = some (.own (.list xs)) ∧ P (!xs.isEmpty)
theorem dt_truO (i : Nat) {x : Str} (hi : X.N[i]? = some x := by rfl) (hvs : Vis X.env.scope x := by first | exact Or.inl rfl | exact Or.inr (Or.inl rfl) | exact Or.inr (Or.inr rfl)) (hd : (x == ("__debug__" : Str)) = false := by decide)
    (hcd : (x == ("__classdict__" : Str)) = false := by decide) (he : ∀ whole, isTrue (.Name x p0) X.env whole = (do let v ← whole; standAt (Expr.Name x p0).pos; holding [v] (truthy v)) := by intro _; rfl) : DT X (.Name x p0) (dTruO i) :=
  PT.weak (pt_truth (pe_var hi hvs hd hcd) he) fun σ H Q ⟨r, G, ρ, P, E, ⟨xs, ex, p⟩, q⟩ => by
    obtain ⟨a, vs, h1, h2, h3⟩ := own_in E ex
    refine ⟨.ref a, h1, _, .inl ⟨_, SqL.of h2, rfl⟩, ?_⟩
    rw [isEmpty_reps h3]
    exact q _ _ _ p E.st.grow
/-- x in (text, text, ..) -/
def fInT : F2 := fun x y P => ∃ s ys ss, x = .str s ∧ (y = .tuple ys ∨ y = .list ys) ∧ dStrs ys = some ss ∧ P (.bool (decide (s ∈ ss)))
theorem inV_strs (s : Str) : ∀ ss : List Str, inV (V.str s) (ss.map V.str) = decide (s ∈ ss)
  | [] => by simp [inV]
  | z :: ss => by
    have ih := inV_strs s ss
    unfold inV at ih ⊢
    rw [List.map_cons, List.any_cons, ih]
    by_cases h : z = s
    · subst h; simp [eqV]
    · have h2 : ¬ s = z := fun e => h e.symm
      simp [eqV, h, h2]
theorem flat_strs : ∀ ss : List Str, (ss.map V.str).all flatV = true
  | [] => rfl
  | z :: ss => by rw [List.map_cons, List.all_cons, flat_strs ss]; rfl
theorem do_inT : DO X (compareOp .In) fInT := by
  intro pins s σ H x y v u Q I rx ry h
  obtain ⟨r, G, d, e, P, S, hd, he, ⟨z, ys, ss, rfl, hy, hb, p⟩, q⟩ := h
  cases hd
  have := strs_eq hb
  subst this
  rcases hy with rfl | rfl
  · cases he with
    | tup e1 r1 =>
      have e2 := r1.strs
      subst e2
      exact op_in_seq pins s σ H _ _ v u Q I rx ry ⟨_, _, rfl, .inr (same_seqP S.gh e1), rfl, flat_strs ss, by
        rw [if_neg (by decide), inV_strs]
        exact q _ _ G H p S.grow (.bl _)⟩
  · cases he with
    | lst e1 r1 =>
      have e2 := r1.strs
      subst e2
      exact op_in_seq pins s σ H _ _ v u Q I rx ry ⟨_, _, rfl, .inl (SqL.of (S.gh _ _ e1)), rfl, flat_strs ss, by
        rw [if_neg (by decide), inV_strs]
        exact q _ _ G H p S.grow (.bl _)⟩
end
end PD
namespace PD
open PySem PySem.Spec PyProof.Rows L2
section
variable {X : Cx} {st : Stmt} {e tg iter c a b k v : Expr} {te ta tb ty tv tk td : PT0} {pos pos' p p0 p1 p2 : Pos} {es : List Expr}
def fNotInT : F2 := fun x y P => ∃ s ys ss, x = .str s ∧ (y = .tuple ys ∨ y = .list ys) ∧ dStrs ys = some ss ∧ P (.bool (!decide (s ∈ ss)))
theorem do_notInT : DO X (compareOp .NotIn) fNotInT := by
  intro pins s σ H x y v u Q I rx ry h
  obtain ⟨r, G, d, e, P, S, hd, he, ⟨z, ys, ss, rfl, hy, hb, p⟩, q⟩ := h
  cases hd
  have := strs_eq hb
  subst this
  rcases hy with rfl | rfl
  · cases he with
    | tup e1 r1 =>
      have e2 := r1.strs
      subst e2
      exact op_notIn_seq pins s σ H _ _ v u Q I rx ry ⟨_, _, rfl, .inr (same_seqP S.gh e1), rfl, flat_strs ss, by
        rw [if_pos rfl, inV_strs]
        exact q _ _ G H p S.grow (.bl _)⟩
  · cases he with
    | lst e1 r1 =>
      have e2 := r1.strs
      subst e2
      exact op_notIn_seq pins s σ H _ _ v u Q I rx ry ⟨_, _, rfl, .inl (SqL.of (S.gh _ _ e1)), rfl, flat_strs ss, by
        rw [if_pos rfl, inV_strs]
        exact q _ _ G H p S.grow (.bl _)⟩
end
end PD
namespace PD
open PySem PySem.Spec PyProof.Rows L2
section
variable {prog : Program} {w : World} {A : Around} {E : Value → Shared → Prop} {s : Shared}
theorem adjust_rev (n : Nat) : Builtin.Slice.sliceAdjust none none (-1) (n : Int) = ((n : Int) - 1, -1) := rfl
theorem places_rev (n : Nat) : Builtin.Slice.slicePlaces ((n : Int) - 1) (-1) (-1) = n := by
  unfold Builtin.Slice.slicePlaces
  rw [if_neg (by decide)]
  by_cases h : (n : Int) - 1 > -1
  · rw [if_pos h, show -(-1 : Int) = 1 from rfl, Int.ediv_one]
    omega
  · rw [if_neg h]
    omega
theorem pick_rev (xs : Array Value) : ((List.range xs.size).filterMap fun (k : Nat) => xs[((xs.size : Int) - 1 + (k : Int) * (-1)).toNat]?).toArray = xs.toList.reverse.toArray := by
  have e : ∀ l : List Nat, (∀ k ∈ l, k < xs.size) → (l.filterMap fun (k : Nat) => xs[((xs.size : Int) - 1 + (k : Int) * (-1)).toNat]?) = (l.map fun k => xs.size - 1 - k).filterMap (xs[·]?) := fun l h => by
    induction l with
    | nil => rfl
    | cons k l ih =>
      have hk := h k (by simp)
      rw [List.map_cons, List.filterMap_cons, List.filterMap_cons, ih fun j hj => h j (by simp [hj])]
      rw [show ((xs.size : Int) - 1 + (k : Int) * (-1)).toNat = xs.size - 1 - k by omega]
  rw [e _ fun k hk => List.mem_range.mp hk, PySem.W.krv_range, List.filterMap_reverse, PySem.W.krv_all]
theorem sliceApplied_rev {sl : Addr} {vl vu vs : Value} {n : Nat} {Q : Int × Int × Nat → Shared → Prop} (hs : s.heap.IsSliceOf sl vl vu vs) (pl : IsPart vl none) (pu : IsPart vu none) (ps : IsPart vs (some (-1)))
    (h : Q ((n : Int) - 1, -1, n) s) : wpAny (model prog w) A (Builtin.Slice.sliceApplied (.ref sl) (pure (n : Int))) Q E s := by
  obtain ⟨os, hos, hcs, hds⟩ := id hs
  unfold Builtin.Slice.sliceApplied Builtin.Slice.sliceFields
  refine wpAny_bind (wpAny_bind (wpAny_field hos hds (x := vl) rfl (wpAny_bind (wpAny_field hos hds (x := vu) rfl (wpAny_bind (wpAny_field hos hds (x := vs) rfl (wpAny_pure ?_)))))))
  refine wpAny_bind (HT.slicePart_ ps ?_)
  show wpAny _ _ (if ((-1 : Int) == 0) = true then _ else _) _ _ s
  rw [if_neg (by decide)]
  refine wpAny_bind (HT.slicePart_ pl (wpAny_bind (HT.slicePart_ pu (wpAny_bind (wpAny_pure ?_)))))
  show wpAny _ _ (match Builtin.Slice.sliceAdjust none none (-1) (n : Int) with | (lo, hi) => pure (lo, (-1 : Int), Builtin.Slice.slicePlaces lo hi (-1))) _ _ s
  rw [adjust_rev n]
  show wpAny _ _ (pure ((n : Int) - 1, (-1 : Int), Builtin.Slice.slicePlaces ((n : Int) - 1) (-1) (-1))) _ _ s
  rw [places_rev]
  exact wpAny_pure h
theorem getItem_tuple_rev {t sl : Addr} {items : Array Value} {vl vu vs : Value} {Q : Value → Shared → Prop} (ht : IsTup s.heap t items) (hs : s.heap.IsSliceOf sl vl vu vs) (pl : IsPart vl none) (pu : IsPart vu none) (ps : IsPart vs (some (-1)))
    (h : Q (.ref s.heap.objs.size) { s with heap := s.heap.push { cls := .type "tuple", data := .seq items.toList.reverse.toArray } })
    (hsz : items.size ≤ sizeLine) : wpAny (model prog w) A (getItem (.ref t) (.ref sl)) Q E s := by
  have htake : sizeOk (.seq items.toList.reverse.toArray) := by
    show items.toList.reverse.toArray.size ≤ sizeLine
    rw [List.size_toArray, List.length_reverse, Array.length_toList]
    omega
  obtain ⟨os, hos, hcs, hds⟩ := id hs
  have hTs : s.TypeIs (.ref sl) "slice" := ⟨os, hos, hcs⟩
  unfold getItem
  try with_reducible refine wpAny_holding ?_
  first | refine wpAny_bind (wpAny_pure ?_) | skip
  refine wpAny_bind (wpAny_sequenceKey ht.typeIs (by decide) ?_)
  refine wpAny_bind (wpAny_callSpecial?_slot (name := Str.ofString "__getitem__") ht.typeIs PyProof.Rows.slot_tuple_getitem
    (wpAny_call_entry PyProof.Rows.slot_tuple_getitem ht.typeIs entry_tuple_getitem ?_ (args_tuple_getitem _ _)))
  show wpAny _ _ (Builtin.Tuple.tupleItemsOf (.ref t) >>= _) _ _ s
  refine wpAny_bind (tupleItemsOf_ ht ?_)
  refine wpAny_bind (wpAny_typeOf hTs ?_)
  rw [if_pos (by decide)]
  refine wpAny_bind (sliceApplied_rev hs pl pu ps ?_)
  have hno : ¬ ((((items.size : Int) - 1) == 0 && (-1 : Int) == 1 && items.size == items.size) = true) := by
    rw [show ((-1 : Int) == 1) = false from by decide, Bool.and_false, Bool.false_and]
    exact Bool.false_ne_true
  show wpAny _ _ (if (((items.size : Int) - 1) == 0 && (-1 : Int) == 1 && items.size == items.size) = true then _ else _) _ _ s
  rw [if_neg hno, pick_rev]
  first
    | exact wpAny_bind (m := Builtin.Tuple.tupleExact _) (wpAny_newObj_type (wpAny_pure ⟨_, rfl, wpAny_pure h⟩) htake)
    | exact wpAny_bind (m := Builtin.Tuple.tupleExact _) (wpAny_newObj_type (wpAny_bind (wpAny_pure (wpAny_pure ⟨_, rfl, wpAny_pure h⟩))) htake)
    | exact wpAny_bind (wpAny_bind (m := Builtin.Tuple.tupleExact _) (wpAny_newObj_type (wpAny_pure (wpAny_pure ⟨_, rfl, wpAny_pure h⟩)) htake))
    | exact wpAny_bind (wpAny_bind (m := Builtin.Tuple.tupleExact _) (wpAny_newObj_type (wpAny_pure ⟨_, rfl, wpAny_pure h⟩) htake))
end
section
variable {X : Cx}
/-- t[::-1] -/
def tRevT (K : PySem.W.Frag) (te : TE) : TE := fun σ H Q => te σ H fun x H1 => ∃ a xs, x = .ref a ∧ SqT K H1 a xs ∧ ∀ p, H1 p = none → Q (.ref p) (upd H1 p (.tup xs.reverse))
theorem pe_revT {e : Expr} {te : TE} {k : Nat} {p1 p2 p3 pos : Pos} (he : PE X e te) : PE X (.Subscript e (.Slice none none (some (.UnaryOp .USub (.Constant (.int 1) k p1) p2)) p3) pos) (tRevT X.K te) := by
  refine ⟨fun pins s σ H Q I h => ?_⟩
  refine Subscript_ (thn (he.run pins s σ H _ I h) fun v s1 ⟨x, H1, I1, r1, q1⟩ => ?_)
  obtain ⟨a, xs, ex, hx, q⟩ := q1
  subst ex
  cases r1
  have hst : PO X (some (.UnaryOp .USub (.Constant (.int 1) k p1) p2)) (tPart (tUn (rU fun i => .int (-i)) (tC (.int 1)))) := po_some (pe_un un_neg pe_int)
  refine wpAny_Slice (thn (po_none.run pins s1 σ H1 (fun o H2 => o = none ∧ H2 = H1) I1 ⟨rfl, rfl⟩) fun vl s2 ⟨l, H2, I2, pl, el, e2⟩ => ?_)
  subst el e2
  refine thn (po_none.run pins s2 σ H2 (fun o H3 => o = none ∧ H3 = H2) I2 ⟨rfl, rfl⟩) fun vu s3 ⟨u, H3, I3, pu, eu, e3⟩ => ?_
  subst eu e3
  refine thn (hst.run pins s3 σ H3 (fun o H4 => o = some (-1) ∧ H4 = H3) I3 ⟨1, rfl, -1, rfl, rfl, rfl⟩) fun vs s4 ⟨o, H4, I4, ps, eo, e4⟩ => ?_
  subst eo e4
  have I5 : Inv X pins σ H4 { s4 with heap := s4.heap.push { cls := .type "slice", data := .fields #[vl, vu, vs] } } := I4.kept (t' := s4.toks) fun b ob q => Heap.get?_push_of_some _ q
  obtain ⟨its, r, ht, hz⟩ := I5.tuple hx
  have hlen := r.length
  show wpAny (model X.prog X.w) X.A (subscriptTail e (.Slice none none (some (.UnaryOp .USub (.Constant (.int 1) k p1) p2)) p3) (.ref a) (.ref s4.heap.objs.size)) (EP X pins σ Q) X.xe { s4 with heap := s4.heap.push { cls := .type "slice", data := .fields #[vl, vu, vs] } }
  refine tail_any (ops := [.ref a, .ref s4.heap.objs.size]) ht.typeIs (PyProof.Rows.slot_tuple_getitem.lookup) ?_ (by with_unfolding_all rfl)
  refine getItem_tuple_rev ht (Heap.IsSliceOf.new _ vl vu vs) pl pu ps ?_ (by rw [List.size_toArray]; omega)
  refine ⟨.ref _, _, I5.laid (t' := s4.toks) (o := .tup xs.reverse) (fun b ob q => Heap.get?_push_of_some _ q) (Nat.le_refl _) ?_, rfl, q _ (I5.hok.fresh (Nat.le_refl _))⟩
  exact ⟨by rw [List.length_reverse]; exact hz, _, r.reverse, IsTup.new _ _⟩
end
end PD
namespace PD
open PySem PySem.Spec PyProof.Rows L2
theorem reps_reverse {K : Fg} {G : Hp} : ∀ {vs : List V} {xs : List Dt}, Reps K G vs xs → Reps K G vs.reverse xs.reverse
  | _, _, .nil => .nil
  | _, _, .cons r t => by
    rw [List.reverse_cons, List.reverse_cons]
    exact (reps_reverse t).snoc r
section
variable {X : Cx} {e o : Expr} {te to ta tb : PT0} {pos p0 p1 p2 p3 : Pos}
def dRevT (te : PT0) : PT0 := fun ρ P => te ρ fun x => ∃ xs, x = .tuple xs ∧ P (.tuple xs.reverse)
theorem de_revT {k : Nat} (he : DE X e te) : DE X (.Subscript e (.Slice none none (some (.UnaryOp .USub (.Constant (.int 1) k p1) p2)) p3) pos) (dRevT te) := PE.weak (pe_revT he) fun σ H Q ⟨r, G, ρ, P, E, p, q⟩ => ⟨r, G, ρ, _, E, p, fun v d G1 H1 ⟨xs, ed, p1⟩ W1 R1 => by
  subst ed
  cases R1 with
  | tup e1 r1 =>
    rename_i a vs
    refine ⟨a, vs, rfl, same_seqP W1.gh e1, fun c hc => ?_⟩
    have W2 := (W1.start E.st).lay (o := .tup vs.reverse) hc
    exact q _ _ _ _ p1 (W1.trans W2) (.tup upd_same ((reps_reverse r1).mono W2.g))⟩
/-! ### s.index(t) -/
theorem mt_index0 : MtR X "str.index" (fun x xs H Q => ∃ (a b : Str) (k : Nat), x = .str a ∧ xs = [.str b] ∧ Txt.index0 a b = some k ∧ Q (.int (k : Nat)) H) := by
  intro pins s σ H x xs v us Q I rx rs h
  obtain ⟨a, b, k, rfl, rfl, hk, h⟩ := h
  obtain ⟨t, rfl⟩ := rx
  cases rs with
  | cons r1 rs =>
    cases rs
    obtain ⟨u, rfl⟩ := r1
    cases q : Builtin.Str.occurrences a b 0 a.length 1 with
    | nil =>
      unfold Txt.index0 at hk
      rw [q] at hk
      cases hk
    | cons j rest =>
      unfold Txt.index0 at hk
      rw [q] at hk
      cases hk
      exact PySem.SC.index q ⟨.int (k : Nat), H, I.tok _, ⟨_, rfl⟩, h⟩
def dIdx (to te : PT0) : PT0 := fun ρ P => to ρ fun x => ∃ a : Str, x = .str a ∧ te ρ fun y => ∃ (b : Str) (k : Nat), y = .str b ∧ Txt.index0 a b = some k ∧ P (.int k)
theorem de_idx {apos cpos : Pos} (ho : DE X o to) (he : DE X e te)
    (hs : starEach (e :: []) X.env = (false, eval e X.env) :: starEach [] X.env := by rfl) (hbase : attributeBase o "index" X.env (eval o X.env) = eval o X.env := by rfl)
    (hfew : ((backTo cpos (starEach (e :: []) X.env)).all (fun x => !x.1) && (backToKw cpos (keywordEach [] X.env)).all (fun x => x.1.isSome) && decide ((e :: ([] : List Expr)).length + ([] : List Keyword).length + (if ([] : List Keyword).isEmpty then 0 else 1) < 30)) = true := by rfl)
    (hline : (apos.endLine == cpos.line) = true := by rfl) (hplain : (backTo cpos (starEach [] X.env)).any (·.1) = false := by rfl) :
    DE X (.Call (.Attribute o "index" apos) [e] [] cpos) (dIdx to te) :=
  PE.weak (pe_bm PySem.F.plainAttrs_str PySem.F.slot_str_index PySem.F.type_str_index mt_index0 ho (pa_cons he pa_nil hs) hbase hfew hline hs hplain) fun σ H Q ⟨r, G, ρ, P, E, p, q⟩ => ⟨r, G, ρ, _, E, p, fun v x G1 H1 ⟨a, ex, p1⟩ W1 R1 => by
    subst ex
    cases R1
    exact ⟨rfl, r, G1, ρ, _, E.grow W1, p1, fun u y G2 H2 ⟨b, k, ey, hk, p2⟩ W2 R2 => by
      subst ey
      cases R2
      exact ⟨a, b, k, rfl, rfl, hk, q _ _ _ _ p2 (W1.trans W2) (.int _)⟩⟩⟩
/-! ### s * n -/
def repS (z : Str) (n : Int) : Str := ⟨(List.replicate n.toNat z.cps).foldl (· ++ ·) #[]⟩
theorem fold_list : ∀ (l : List (Array Nat)) (acc : Array Nat), (l.foldl (· ++ ·) acc).toList = acc.toList ++ (l.map Array.toList).flatten
  | [], acc => by simp
  | x :: l, acc => by
    rw [List.foldl_cons, fold_list l]
    simp
theorem rep_list (z : Str) (n : Int) : (repS z n).cps.toList = (List.replicate n.toNat z.cps.toList).flatten := by
  unfold repS
  rw [fold_list, List.map_replicate]
  simp
theorem op_mulS : OpR X (binaryOp .Mult) (fun x y H Q => ∃ (z : Str) (n : Int), x = .str z ∧ y = .int n ∧ 1 ≤ n ∧ n ≤ 1000 ∧ z.length = 1 ∧ Q (.str (repS z n)) H) := by
  intro pins s σ H x y v u Q I rx ry h
  obtain ⟨z, n, rfl, rfl, h1, h2, h3, h⟩ := h
  obtain ⟨t, rfl⟩ := rx
  obtain ⟨u, rfl⟩ := ry
  refine PySem.P.mul_str (by rw [decide_eq_false (by omega), decide_eq_false (by omega)]; rfl) (fun _ _ => ?_) (fun _ _ => ?_) ?_
  · rw [h3]
    have := Int.le_ediv_of_mul_le (c := n) (a := 1) (b := 2 ^ 63 - 1) (by omega) (by omega)
    omega
  · unfold Builtin.Str.tooLong
    rw [sizeLine_eq, h3]
    exact decide_eq_false (by omega)
  · rw [if_neg (by omega)]
    by_cases e : (n == 1 || z.length == 0) = true
    · rw [if_pos e]
      refine ⟨.str z, H, I, ⟨t, rfl⟩, ?_⟩
      have : repS z n = z := by
        rw [h3, Bool.or_eq_true] at e
        rcases e with e | e
        · have : n = 1 := eq_of_beq e
          subst this
          unfold repS
          simp
        · cases e
      rw [this] at h
      exact h
    · rw [if_neg e]
      refine ⟨?_, .str (repS z n), H, I.tok _, ⟨_, rfl⟩, h⟩
      show (repS z n).cps.size ≤ sizeLine
      rw [← Array.length_toList, rep_list, sizeLine_eq]
      have : z.cps.toList.length = 1 := by rw [Array.length_toList]; exact h3
      simp [this]
      omega
def fMulS : F2 := fun x y P => ∃ (z : Str) (n : Int), x = .str z ∧ y = .int n ∧ (1 ≤ n ∧ n ≤ 1000) ∧ z.length = 1 ∧ P (.str (repS z n))
theorem do_mulS : DO X (binaryOp .Mult) fMulS := by
  intro pins s σ H x y v u Q I rx ry h
  obtain ⟨r, G, d, e, P, S, hd, he, ⟨z, n, rfl, rfl, h1, h2, p⟩, q⟩ := h
  cases hd
  cases he
  exact op_mulS pins s σ H _ _ v u Q I rx ry ⟨z, n, rfl, rfl, h1.1, h1.2, h2, q _ _ G H p S.grow (.str _)⟩
end
end PD
namespace PD
open PySem PySem.Spec PyProof.Rows L2
section
variable {X : Cx}
/-- max of a tuple of ints -/
theorem ints_look : ∀ {its : List Value} {ns : List Int}, IntsAre its ns → ∀ (i : Nat) (v : Value), its.toArray[i]? = some v → ∃ t, v = .int (ns.getD i 0) t := fun h i v e =>
  IntsAre.int_at h i v (by simpa using e)
theorem cr_maxT (hc : X.calm = true) : CallR X (.builtin "max") (fun vs H Q => ∃ (a : Addr) (ns : List Int), vs = [V.ref a] ∧ SqT X.K H a (ns.map V.int) ∧ 0 < ns.length ∧ ∀ m, m ∈ ns → (∀ y, y ∈ ns → y ≤ m) → Q (.int m) H) := by
  intro pins s σ H vs us Q I r ⟨a, ns, ev, hs, hne, q⟩
  subst ev
  rw [Vals.ref1 r]
  obtain ⟨its, rv, hl, _⟩ := I.tuple hs
  have hi := rv.ints
  have hlen : its.length = ns.length := hi.length
  have hne2 : a ≠ s.heap.objs.size := Nat.ne_of_lt hl.lt
  have hsz : its.toArray.size = its.length := by simp
  refine call_max_walk (wpAny_pyIter_tuple hl ?_)
  refine ⟨_, _, _, _, _, _, _, rfl, Walks.tuple (A := X.A.in1) (I.ok.hd hc) s.heap.objs.size a hne2 its.toArray, ⟨⟨_, Heap.get?_push_size _ rfl, rfl, rfl⟩, hl.push _⟩, fun b hb => ?_, by omega, CmpOf.ints_gt (fun i => ns.getD i 0) (ints_look hi), fun v h' tk hP hk => ?_⟩
  · show b < (s.heap.push _).objs.size
    rw [Heap.size_push]
    rcases List.mem_cons.mp hb with e | hb
    · rw [e]
      exact Nat.lt_succ_self _
    · rw [List.mem_singleton.mp hb]
      exact Nat.lt_succ_of_lt hl.lt
  · obtain ⟨t, rfl⟩ := ints_look hi _ v hP
    obtain ⟨b1, b2⟩ := argBest_gt (fun i => ns.getD i 0) (its.toArray.size - 1)
    refine ⟨.int _, H, I.kept (t' := tk) fun b u e => hk b u (fun hmem => ?_) (Heap.get?_push_of_some _ e), ⟨t, rfl⟩, q _ ?_ fun y hy => ?_⟩
    · have e1 := List.mem_singleton.mp hmem
      have e2 := Heap.lt_size e
      rw [e1] at e2
      exact absurd e2 (Nat.lt_irrefl _)
    · have hb : argBest (fun i j => decide (ns.getD i 0 > ns.getD j 0)) (its.toArray.size - 1) < ns.length := by omega
      rw [List.getD_eq_getElem?_getD, List.getElem?_eq_getElem hb]
      exact List.getElem_mem hb
    · obtain ⟨i, hi', e⟩ := List.mem_iff_getElem.mp hy
      have e2 : ns.getD i 0 = y := by rw [List.getD_eq_getElem?_getD, List.getElem?_eq_getElem hi', ← e] <;> rfl
      rw [← e2]
      exact b2 i (by omega)
def fMaxT : FC := fun ds P => ∃ ns : List Int, ds = [.tuple (ns.map .int)] ∧ 0 < ns.length ∧ ∀ m, m ∈ ns → (∀ y, y ∈ ns → y ≤ m) → P (.int m)
theorem dInts_map : ∀ ns : List Int, dInts (ns.map PyData.int) = some ns
  | [] => rfl
  | n :: ns => by rw [List.map_cons]; simp [dInts, dInts_map ns]
theorem dc_maxT (hc : X.calm = true) : DC X (.builtin "max") fMaxT := by
  intro pins s σ H xs us Q I rv ⟨r, G, ds, P, S, hd, ⟨ns, e, h0, p⟩, q⟩
  subst e
  cases hd with
  | cons h1 h2 =>
    cases h2
    cases h1 with
    | tup e r1 =>
      rw [ints_eq (dInts_map ns)] at r1
      have e1 := r1.ints
      subst e1
      exact cr_maxT hc pins s σ H _ us Q I rv ⟨_, ns, rfl, same_seqP S.gh e, h0, fun m h1 h2 => q _ _ G H (p m h1 h2) S.grow (.int _)⟩
end
end PD
namespace PD
open PySem PySem.Spec PyProof.Rows L2
/-! ### a set of texts, as it is laid -/
def keyX (e : Int × Value) : Str := match e.2 with
  | .str z _ => z
  | _ => ""
def GoodX (w : World) (e : Int × Value) : Prop := ∃ z tk, e.2 = Value.str z tk ∧ e.1 = keyH w (Sum.inr z)
section
variable {P : Program} {w : World}
theorem goodX_elems {l : List (Int × Value)} (g : ∀ e ∈ l, GoodX w e) : ElemsOf (mixKind P w) l := fun e he => by
  obtain ⟨z, tk, h1, h2⟩ := g e he
  exact ⟨⟨Sum.inr z, by rw [h1]; exact keyIs_str z tk, h2⟩, by rw [h1]; rfl⟩
theorem goodX_is {e : Int × Value} (g : GoodX w e) (x : Str) : (mixKind P w).is (Sum.inr x) e.2 = true ↔ keyX e = x := by
  obtain ⟨z, tk, h1, _⟩ := g
  unfold keyX
  rw [h1]
  constructor
  · intro h
    obtain ⟨t, e⟩ := Value.isStrOf_shape (x := x) (v := .str z tk) h
    injection e
  · rintro rfl
    exact keyIs_str _ tk
theorem goodX_mem {l : List (Int × Value)} (g : ∀ e ∈ l, GoodX w e) (x : Str) : x ∈ l.map keyX ↔ ∃ e ∈ l, (mixKind P w).is (Sum.inr x) e.2 = true := by
  rw [List.mem_map]
  exact ⟨fun ⟨e, he, q⟩ => ⟨e, he, (goodX_is (g e he) x).mpr q⟩, fun ⟨e, he, q⟩ => ⟨e, he, (goodX_is (g e he) x).mp q⟩⟩
end
/-- the set at a holds just the texts ks; its table rises, so that it can be walked -/
structure SX (w : World) (h : Heap) (a : Addr) (ks : List Str) (o : Obj) (es : Array (Int × Value)) (ep : Nat) (t : SetTable) : Prop where
  obj : h.get? a = some o
  ex : o.ExactSet
  dt : o.data = .set es ep t
  good : ∀ e ∈ es.toList, GoodX w e
  nd : (es.toList.map keyX).Nodup
  mem : ∀ z, z ∈ es.toList.map keyX ↔ z ∈ ks
  few : es.size ≤ ks.length
  room : ks.length < scanBound
  fit : t.fits es.size = true
  rise : Ris t.place.toList
  led : w.params.followText "set-order" = true ∨ t.led = true
def SetX (w : World) (h : Heap) (a : Addr) (ks : List Str) : Prop := ∃ o es ep t, SX w h a ks o es ep t
theorem SetX.keep {w : World} {h h' : Heap} {a : Addr} {ks : List Str} (R : SetX w h a ks) (k : ∀ o, h.get? a = some o → h'.get? a = some o) : SetX w h' a ks := by
  obtain ⟨o, es, ep, t, r⟩ := R
  exact ⟨o, es, ep, t, { r with obj := k o r.obj }⟩
section
variable {P : Program} {w : World} {A : Around} {E : Value → Shared → Prop} {s : Shared} {a : Addr} {ks : List Str}
theorem tailX {g : Bool → Sem Unit} (hg : ∀ (b : Bool) (s1 : Shared) (Q' : Unit → Shared → Prop), Q' () s1 → wpAny (model P w) A (g b) Q' E s1) {o : Obj} {es : Array (Int × Value)} {ep : Nat} {t : SetTable}
    (ho : s.heap.get? a = some o) (hex : o.ExactSet) (hd : o.data = .set es ep t) {fs : Array (Int × Value)} {u : SetTable} (g1 : ∀ e ∈ fs.toList, GoodX w e) (nd : (fs.toList.map keyX).Nodup) (m1 : ∀ z, z ∈ fs.toList.map keyX ↔ z ∈ ks)
    (few : fs.size ≤ ks.length) (room : ks.length < scanBound) (hf : u.fits fs.size = true) (hr : Ris u.place.toList) (hl : w.params.followText "set-order" = true ∨ u.led = true) {wd : Bool} {R : Option Bool → Shared → Prop}
    (hR : ∀ h', Heap.SameBut a s.heap h' → SetX w h' a ks → R (some true) { s with heap := h' }) :
    wpAny (model P w) A (do
      storeSet a fs u
      if (!wd && u.tooFull) = true then do
        g (relayAll u fs (SetTable.grown fs.size)).2.2
        storeSet a (relayAll u fs (SetTable.grown fs.size)).1 (relayAll u fs (SetTable.grown fs.size)).2.1
        pure (some true)
      else pure (some true)) R E s := by
  have hsc : fs.size < scanBound := Nat.lt_of_le_of_lt few room
  refine wpAny_bind (wpAny_storeSet_of ho hd ?_ (fits_of_scanBound hsc))
  have ho1 := store_at (es' := fs) (t' := u) ho hd
  have sb1 := Heap.SameBut.update s.heap a (Obj.putSet fs u)
  split
  · have pm := relayAll_perm u fs (SetTable.grown fs.size)
    have hf3 := relayAll_fits u fs (SetTable.grown fs.size)
    have hr3 := relayAll_ris u fs (SetTable.grown fs.size)
    have hl3 := relayAll_led u fs (SetTable.grown fs.size)
    generalize relayAll u fs (SetTable.grown fs.size) = Z at pm hf3 hr3 hl3 ⊢
    obtain ⟨gs, v, gave⟩ := Z
    dsimp only at pm hf3 hr3 hl3 ⊢
    have hsz : gs.size = fs.size := by rw [← Array.length_toList, pm.length_eq, Array.length_toList]
    refine wpAny_bind (hg _ _ _ ?_)
    refine wpAny_bind (wpAny_storeSet_of ho1 rfl ?_ (fits_of_scanBound (by rw [hsz]; exact hsc)))
    have ho2 := store_at (es' := gs) (t' := v) ho1 rfl
    refine wpAny_pure (hR _ (sb1.trans (Heap.SameBut.update _ a _)) ⟨_, gs, ep + 1 + 1, v, ⟨ho2, ?_, ?_, ?_, ?_, ?_, ?_, ?_, ?_, ?_, ?_⟩⟩)
    all_goals first
      | exact hex
      | rfl
      | exact fun e he => g1 e (pm.mem_iff.mp he)
      | exact (pm.map keyX).nodup_iff.mpr nd
      | exact fun z => ((pm.map keyX).mem_iff).trans (m1 z)
      | exact room
      | exact hf3
      | exact hr3
      | (rw [hsz]; exact few)
      | exact hl.imp id fun z => by rw [hl3]; exact z
  · exact wpAny_pure (hR _ sb1 ⟨_, fs, ep + 1, u, ho1, hex, rfl, g1, nd, m1, few, room, hf, hr, hl⟩)
theorem addX {x : Str} {tk : Tok} {Q : Bool → Shared → Prop} (R : SetX w s.heap a ks) (room : ks.length + 1 < scanBound)
    (hQ : ∀ b h', Heap.SameBut a s.heap h' → SetX w h' a (ks ++ [x]) → Q b { s with heap := h' }) : wpAny (model P w) A (setAddHashed a (.str x tk) ((mixKind P w).hash (Sum.inr x))) Q E s := by
  obtain ⟨o, es, ep, t, r⟩ := R
  have hkey : (mixKind P w).is (Sum.inr x) (.str x tk) = true := keyIs_str x tk
  have hsc : (Value.str x tk).scannable = true := rfl
  have hel : ElemsOf (mixKind P w) es.toList := goodX_elems r.good
  have hl1 : (ks ++ [x]).length = ks.length + 1 := by simp
  have hb : es.size < scanBound := Nat.lt_of_le_of_lt r.few r.room
  unfold setAddHashed setAddHashedIn
  refine wpAny_holding (wpAny_bind (wpAny_setState_of r.obj r.dt r.fit ?_))
  dsimp only
  rw [byScan_of hsc hb hel]
  simp only [↓reduceIte]
  unfold setAddByScan
  refine wpAny_bind ?_
  refine wpAny_bind (wpAny_rule ?_)
  refine wpAny_bind (wpAny_setScan_of hkey r.obj r.dt r.fit hel ?_)
  cases hfi : List.findIdx? (fun e => (mixKind P w).is (Sum.inr x) e.2) es.toList with
  | some j =>
    dsimp only
    obtain ⟨hj, pj, _⟩ := List.findIdx?_eq_some_iff_getElem.mp hfi
    have hx : x ∈ ks := (r.mem x).mp ((goodX_mem (P := P) r.good x).mpr ⟨es.toList[j], List.getElem_mem hj, pj⟩)
    refine wpAny_pure (wpAny_pure ?_)
    refine hQ _ s.heap (Heap.SameBut.refl a s.heap) ⟨o, es, ep, t, { r with mem := fun z => ?_, few := by rw [hl1]; exact Nat.le_succ_of_le r.few, room := by rw [hl1]; exact room }⟩
    rw [r.mem z, List.mem_append, List.mem_singleton]
    exact ⟨.inl, fun h => h.elim id fun e => e ▸ hx⟩
  | none =>
    dsimp only
    have hnx : x ∉ es.toList.map keyX := fun z => by
      obtain ⟨e, he, q⟩ := (goodX_mem (P := P) r.good x).mp z
      have c := List.findIdx?_eq_none_iff.mp hfi e he
      rw [q] at c
      cases c
    have gave : ∀ (b : Bool) {s1 : Shared} {Q' : Unit → Shared → Prop}, Q' () s1 → wpAny (model P w) A (match b with | true => rule "set.scan.the-table-gave-way" | false => pure ()) Q' E s1 := fun b s1 Q' q => by
      cases b
      · exact wpAny_pure q
      · exact wpAny_rule q
    have pm := layNew_perm t es ((mixKind P w).hash (Sum.inr x)) (.str x tk)
    have hf1 := layNew_fits t es ((mixKind P w).hash (Sum.inr x)) (.str x tk)
    have hr1 := layNew_ris t es ((mixKind P w).hash (Sum.inr x)) (.str x tk) r.rise
    have hl2 := layNew_led t es ((mixKind P w).hash (Sum.inr x)) (.str x tk)
    generalize layNew t es ((mixKind P w).hash (Sum.inr x)) (.str x tk) = Z at pm hf1 hr1 hl2 ⊢
    obtain ⟨fs, u, wd, gv⟩ := Z
    dsimp only at pm hf1 hr1 hl2 ⊢
    rw [Array.toList_push] at pm
    have pc : fs.toList.Perm (((mixKind P w).hash (Sum.inr x), Value.str x tk) :: es.toList) := pm.trans (List.perm_append_singleton _ _)
    have pk : (fs.toList.map keyX).Perm (x :: es.toList.map keyX) := pc.map keyX
    have g1 : ∀ e ∈ fs.toList, GoodX w e := fun e he => by
      rcases List.mem_cons.mp (pc.mem_iff.mp he) with z | z
      · rw [z]
        exact ⟨x, tk, rfl, rfl⟩
      · exact r.good e z
    have nd1 : (fs.toList.map keyX).Nodup := pk.nodup_iff.mpr (List.nodup_cons.mpr ⟨hnx, r.nd⟩)
    have m1 : ∀ z, z ∈ fs.toList.map keyX ↔ z ∈ ks ++ [x] := fun z => by
      rw [pk.mem_iff, List.mem_cons, r.mem z, List.mem_append, List.mem_singleton]
      exact Or.comm
    have few1 : fs.size ≤ (ks ++ [x]).length := by
      have := r.few
      rw [hl1, ← Array.length_toList, pc.length_eq, List.length_cons, Array.length_toList]
      omega
    have room1 : (ks ++ [x]).length < scanBound := by rw [hl1]; exact room
    have led1 : w.params.followText "set-order" = true ∨ u.led = true := r.led.imp id fun z => by rw [hl2]; exact z
    refine wpAny_bind (gave _ ?_)
    split
    · refine wpAny_bind ?_
      rw [hashByValue_scannable 8 hsc]
      refine wpAny_pure ?_
      refine tailX ?_ r.obj r.ex r.dt g1 nd1 m1 few1 room1 ?_ ?_ ?_ ?_
      · exact fun b s1 Q' q => gave b q
      · first
          | exact hf1
          | (split <;> first | exact hf1 | exact SetTable.fits_plain_off hf1)
      · first
          | exact hr1
          | (split <;> exact hr1)
      · first
          | exact led1
          | (split <;> exact led1)
      · intro h' sb q
        dsimp only
        exact wpAny_pure (hQ _ h' sb q)
    · refine wpAny_bind (wpAny_pure ?_)
      simp only [↓reduceIte]
      refine tailX ?_ r.obj r.ex r.dt g1 nd1 m1 few1 room1 hf1 hr1 led1 ?_
      · exact fun b s1 Q' q => gave b q
      · intro h' sb q
        dsimp only
        exact wpAny_pure (hQ _ h' sb q)
end
/-! ### set(xs), xs a list of texts -/
section
variable {P : Program} {w : World} {A : Around} {R : Result → Shared → Prop} {I : Addr} {fp wr : List Addr} {G : Array GenState → Array GenState → Prop} {n : Nat} {Pv : Nat → Value → Prop} {St : Nat → Shared → Prop}
theorem loopX (W : WalksS P w A.in1 I fp wr G n Pv St) (S : Addr) (hSf : S ∉ fp) (xs : List Str) (hval : ∀ i v, Pv i v → ∃ x t, xs[i]? = some x ∧ v = .str x t) (hn : n = xs.length) (hb : n + 1 < scanBound) :
    ∀ (k i : Nat) (s : Shared), n - i = k → i ≤ n → St i s → SetX w s.heap S (xs.take i) → (∀ s', Moved (S :: wr) G s s' → SetX w s'.heap S xs → R (.ok (.ret .none)) s') →
      codeAny (model P w) A (.builtin "set.update.loop" ⟨[.ref S, .ref I], []⟩) R s := by
  have hSw : S ∉ wr := fun h => hSf (W.sub _ h)
  have sub : ∀ b ∈ wr, b ∈ S :: wr := fun b h => .tail _ h
  intro k
  induction k with
  | zero =>
    intro i s hk hi hst hS hR
    have hin : i = n := by omega
    subst hin
    refine codeAny_builtin PyProof.Rows.F.entry_set_update_loop ?_
    rw [Around.under_plainId PyProof.Rows.F.plain_set_update_loop _]
    show wpAny _ A.in1 (pyNext (.ref I) >>= _) _ _ s
    refine wpAny_bind (W.done s _ _ hst fun s' hm => ?_)
    show wpAny _ A.in1 (ret Value.none) _ _ s'
    rw [hn, List.take_length] at hS
    exact wpAny_pure (hR s' (hm.mono sub) (hS.keep fun o e => hm.heap S o hSw e))
  | succ k ih =>
    intro i s hk hi hst hS hR
    have hlt : i < n := by omega
    refine codeAny_builtin PyProof.Rows.F.entry_set_update_loop ?_
    rw [Around.under_plainId PyProof.Rows.F.plain_set_update_loop _]
    show wpAny _ A.in1 (pyNext (.ref I) >>= _) _ _ s
    refine wpAny_bind (W.item i s _ _ hlt hst fun v s' hP hst' hm => ?_)
    obtain ⟨x, t, hx, rfl⟩ := hval i v hP
    have hS' : SetX w s'.heap S (xs.take i) := hS.keep fun o e => hm.heap S o hSw e
    show wpAny _ A.in1 (holding [Value.str x t] (setAdd S (.str x t)) >>= _) _ _ s'
    refine wpAny_bind (wpAny_holding ?_)
    unfold setAdd
    refine wpAny_holding ?_
    refine wpAny_bind ((mixKind P w).pyHash (k := Sum.inr x) (keyIs_str x t) ?_)
    have hroom : (xs.take i).length + 1 < scanBound := by rw [List.length_take]; omega
    refine addX (P := P) (s := { s' with toks := s'.toks + 1 }) hS' hroom fun b h' hsb hS2 => ?_
    have hS3 : SetX w h' S (xs.take (i + 1)) := by
      rw [List.take_add_one, hx]
      exact hS2
    refine wpAny_pure ⟨plainId_quiet PyProof.Rows.F.plain_set_update_loop _, ih (i + 1) _ (by omega) hlt (W.frame _ s' _ _ hst' (Nat.le_succ _) fun b hbf o e => ?_) hS3 fun s2 hm2 hS4 => ?_⟩
    · rw [hsb.2 b fun h : b = S => hSf (by rw [← h]; exact hbf)]
      exact e
    · refine hR s2 (Moved.trans W.gtrans ((hm.mono sub).then_heap (Nat.le_succ _) fun b o hbw e => ?_) hm2) hS4
      rw [hsb.2 b fun h : b = S => hbw (by rw [h]; exact .head _)]
      exact e
end
theorem freshX {w : World} {h : Heap} {a : Addr} (e : h.get? a = some { cls := .type "set", dict := none, data := .set #[] 0 (.fresh 0 0 (!w.params.followText "set-order")) }) : SetX w h a [] :=
  ⟨_, #[], 0, _, ⟨e, ⟨rfl, rfl, rfl⟩, rfl, fun e he => by simp at he, by simp, fun z => by simp, Nat.le_refl _, by decide, by rfl, List.Pairwise.nil, by
    cases hf : w.params.followText "set-order"
    · exact .inr (by simp [SetTable.fresh])
    · exact .inl rfl⟩⟩
section
variable {P : Program} {w : World} {A : Around} {E : Value → Shared → Prop} {s : Shared}
def setObj0 (w : World) : Obj := { cls := .type "set", dict := none, data := .set #[] 0 (.fresh 0 0 (!w.params.followText "set-order")) }
set_option maxHeartbeats 8000000 in
theorem callX {l : Addr} {items : Array Value} (xs : List Str) {Q : Value → Shared → Prop} (hh : A.handled = none) (hl : s.heap.IsList l items) (hit : ∀ (i : Nat) (v : Value), items[i]? = some v → ∃ x t, xs[i]? = some x ∧ v = .str x t) (hsz : items.size = xs.length) (hb : xs.length + 1 < scanBound)
    (h : ∀ (h' : Heap) (tk : Nat), SetX w h' s.heap.objs.size xs → (∀ b o, b < s.heap.objs.size → s.heap.get? b = some o → h'.get? b = some o) → Q (.ref s.heap.objs.size) { s with heap := h', toks := tk }) :
    wpAny (model P w) A (call (.type "set") [.ref l]) Q E s := by
  obtain ⟨c, tl, hmro⟩ := PySem.F.called_set.mro
  have hmade := PySem.F.called_set.made
  have hsub := PySem.F.called_set.sub
  refine wpAny_call (codeAny_of_tree ?_)
  show wpAny _ _ (callAny (.type "set") _) _ _ _
  refine wpAny_pure ⟨Code.quiet_builtin _ (by decide +kernel), codeAny_builtin PySem.F.entry_type_call ?_⟩
  rw [Around.under_plain (weight_type_call_type "set" [.ref l] []) rfl]
  have h1 := PySem.F.called_set.notType
  have h2 := PySem.F.called_set.canCreate
  have hct := PySem.F.typeCall_set_1 (.ref l)
  repeat (any_goals (first | assumption | wp_step))
  refine codeAny_mono (code_set_led1 (.ref l) (E := E) (Q₁ := fun obj s1 => obj = .ref s.heap.objs.size ∧ s1 = { s with heap := s.heap.push (setObj0 w) }) ⟨rfl, rfl⟩) fun r s1 hr => ?_
  cases r with
  | error e => exact hr
  | ok fl =>
    cases fl with
    | ret obj =>
      obtain ⟨rfl, rfl⟩ := hr
      have hS : (s.heap.push (setObj0 w)).get? s.heap.objs.size = some (setObj0 w) := Heap.get?_push_size _ rfl
      have hT : Shared.TypeIs { s with heap := s.heap.push (setObj0 w) } (.ref s.heap.objs.size) "set" := ⟨_, hS, rfl⟩
      have hli := PySem.F.called_set.init.lookup
      have hbi := PySem.F.called_set.init.bind (.ref s.heap.objs.size)
      repeat (any_goals (first | assumption | wp_step))
      refine codeAny_mono (codeAny_call_builtin (R := wants (fun r s2 => r = .none ∧ ∃ h' tk, s2 = { s with heap := h', toks := tk } ∧ SetX w h' s.heap.objs.size xs ∧ (∀ b o, b < s.heap.objs.size → s.heap.get? b = some o → h'.get? b = some o)) E)
        PySem.F.called_set.init.plain PySem.F.entry_set_init (check_set_init_1 hT ?_)) fun r2 s2 hr2 => ?_
      · obtain ⟨ol, hol, hcl, nl, hdl⟩ := hl
        obtain ⟨ocls, odict, odata, oslots⟩ := ol
        simp only at hcl hdl
        subst hcl hdl
        have hol' : (s.heap.push (setObj0 w)).get? l = some { cls := .type "list", dict := odict, data := .seq items nl, slots := oslots } := Heap.get?_push_of_some _ hol
        have hsls := PySem.F.sub_list_set
        have hslf := PySem.F.sub_list_frozenset
        have hne : (Value.type "list" == Value.type "dict") = false := by decide
        have hl1 : (s.heap.push (setObj0 w)).IsList l items := ⟨_, hol', rfl, nl, rfl⟩
        unfold Builtin.«set.__init__» noKeywords Builtin.Frozenset.updateFrom
        generalize hPI : pyIter = PI
        wp_walk
        subst hPI
        refine wpAny_pyIter_list hl1 ?_
        refine wpAny_bind (wpAny_runValue ?_)
        have hlS : l < s.heap.objs.size := Heap.lt_size hol
        have hh3 : A.in1.in1.in1.handled = none := by simp [hh]
        have z1 : (s.heap.push (setObj0 w)).objs.size = s.heap.objs.size + 1 := Heap.size_push ..
        have hneI : l ≠ (s.heap.push (setObj0 w)).objs.size := by
          rw [z1]
          exact Nat.ne_of_lt (Nat.lt_succ_of_lt hlS)
        have hSf : s.heap.objs.size ∉ [(s.heap.push (setObj0 w)).objs.size, l] := by
          rw [z1]
          simp only [List.mem_cons, List.not_mem_nil, or_false, not_or]
          exact ⟨Nat.ne_of_lt (Nat.lt_succ_self _), Nat.ne_of_gt hlS⟩
        refine loopX ((Walks.list hh3 _ l hneI items).toS) s.heap.objs.size hSf xs hit hsz (by rw [hsz]; exact hb) (items.size - 0) 0 _ (by omega) (Nat.zero_le _)
          ⟨⟨_, Heap.get?_push_size _ rfl, rfl, rfl⟩, (hl1.push _)⟩ ?hS0 ?hR
        case hS0 => exact freshX (Heap.get?_push_of_some _ hS)
        case hR =>
          intro s' hm hS'
          obtain ⟨h', g', d', tk', os'⟩ := s'
          have eg : g' = s.gens := hm.gens
          have ed : d' = s.drawn := hm.drawn
          have eo : os' = s.os := hm.os
          subst eg ed eo
          show wpAny _ _ _ _ _ _
          refine wpAny_pure ?_
          show wpAny _ _ (ret Value.none) _ _ _
          refine wpAny_pure ⟨rfl, h', tk', rfl, hS', fun b o hbl e => ?_⟩
          refine hm.heap b o ?_ (Heap.get?_push_of_some _ (Heap.get?_push_of_some _ e))
          rw [z1]
          simp only [List.mem_cons, List.not_mem_nil, or_false, not_or]
          exact ⟨Nat.ne_of_lt hbl, Nat.ne_of_lt (Nat.lt_succ_of_lt hbl)⟩
      · cases r2 with
        | error e => exact hr2
        | ok fl2 =>
          cases fl2 with
          | ret r =>
            obtain ⟨rfl, h', tk, rfl, hS', hk'⟩ := hr2
            repeat (any_goals (first | assumption | wp_step))
            exact h _ _ hS' hk'
          | _ => exact hr2.elim
    | _ => exact hr.elim
end
/-! ### sorted(a set of texts) -/
def strOfV : Value → Str
  | .str z _ => z
  | _ => ""
theorem strsOfV : ∀ (l : List Value), (∀ v ∈ l, ∃ z tk, v = Value.str z tk) → StrsAre l (l.map strOfV)
  | [], _ => .nil
  | v :: l, h => by
    obtain ⟨z, tk, rfl⟩ := h v (by simp)
    exact .cons z tk (strsOfV l fun u hu => h u (by simp [hu]))
section
variable {P : Program} {w : World} {A : Around} {E : Value → Shared → Prop} {s : Shared} {a : Addr} {ks : List Str}
theorem sortedX {Q : Value → Shared → Prop} (R : SetX w s.heap a ks) (hh : A.handled = none)
    (hQ : ∀ s' p (out : Array Value) (c : Nat) (ys : List Str), (∀ b o, s.heap.get? b = some o → s'.heap.get? b = some o) → s'.gens = s.gens → s'.os = s.os → s.heap.objs.size ≤ p →
      s'.heap.get? p = some (seqObj "list" out c) → StrsAre out.toList ys → sortedS ys = true → ys.Nodup → (∀ z, z ∈ ys ↔ z ∈ ks) → ys.length ≤ sizeLine → Q (.ref p) s') :
    wpAny (model P w) A (call (.builtin "sorted") [.ref a]) Q E s := by
  obtain ⟨o, es, ep, t, r⟩ := R
  have hb : es.size < scanBound := Nat.lt_of_le_of_lt r.few r.room
  refine Calls.call_function_entry PyProof.Rows.kind_sorted PyProof.Rows.plain_sorted PyProof.Rows.entry_sorted (PyProof.Rows.args_sorted1 _) ?_
  unfold Builtin.«sorted»
  refine wpAny_bind (m := checkCount "sorted" 1 1 _) (wpAny_pure (wpAny_bind (collect_set (A := A.in1) hh ⟨o, r.obj, r.ex.1, r.dt⟩ r.fit hb r.rise r.led fun s1 vs k1 hz gen1 os1 pm => ?_)))
  have hvl : vs.length ≤ sizeLine := by
    rw [pm.length_eq, List.length_map, Array.length_toList]
    exact fits_of_scanBound hb
  have hI : StrsAre vs (vs.map strOfV) := strsOfV vs fun v hv => by
    obtain ⟨e, he, q⟩ := List.mem_map.mp (pm.mem_iff.mp hv)
    obtain ⟨z, tk, h1, _⟩ := r.good e he
    exact ⟨z, tk, by rw [← q]; exact h1⟩
  have pk : (vs.map strOfV).Perm (es.toList.map keyX) := by
    have q := pm.map strOfV
    rw [List.map_map] at q
    exact q
  refine wpAny_bind (wpAny_newList ?_ hvl)
  have hoL : (s1.heap.push (seqObj "list" vs.toArray 0)).get? s1.heap.objs.size = some (seqObj "list" vs.toArray 0) := Heap.get?_push_size _ rfl
  refine wpAny_bind (wpAny_holding (wpAny_call_entry PyProof.Rows.slot_list_sort ⟨_, hoL, rfl⟩ PyProof.Rows.entry_list_sort
    (PyProof.Rows.list_sort_treeKAny PyProof.Rows.strKind_oneLt hoL hI.keysOf (fun v1 v2 rest e => PyProof.Rows.keyKind_strs (by rw [← e]; exact hI)) hvl fun st hp hs => ?_) (PyProof.Rows.args_list_sort _)))
  obtain ⟨ys, a1, a2, a3⟩ := PyProof.Rows.sorted_out_str hI hp hs
  have pn : ys.Perm (es.toList.map keyX) := a2.trans pk
  refine ⟨_, rfl, wpAny_pure ⟨_, rfl, ?_⟩⟩
  obtain ⟨c, hc⟩ := PyProof.Rows.sortedHeap_at (vs := vs) (out := (PyProof.Rows.arrOf st).map (·.2)) hoL
  refine hQ _ s1.heap.objs.size _ c ys (fun b u e => ?_) gen1 os1 hz hc a1 a3 (pn.nodup_iff.mpr r.nd) (fun z => pn.mem_iff.trans (r.mem z)) ?_
  · have q := k1 b u e
    have hlt := Heap.lt_size q
    refine (PyProof.Rows.sortedHeap_old (Nat.ne_of_lt hlt) ?_).trans (Heap.get?_push_of_some _ q)
    rw [PyProof.Rows.size_push']
    exact Nat.lt_succ_of_lt hlt
  · rw [pn.length_eq, List.length_map, Array.length_toList]
    exact fits_of_scanBound hb
end
end PD
namespace PD
open PySem PySem.Spec PyProof.Rows L2
/-- the set of texts at a, as a tracked thing -/
def SetXO (w : World) (a : Addr) (ks : List Str) : HO := .ext fun h => SetX w h a ks
theorem setXO_ok {P : Program} {w : World} {H : Hp} {h : Heap} {a : Addr} {ks : List Str} (R : SetX w h a ks) : ObjOk P w H h a (SetXO w a ks) := by
  have ⟨o, _, _, _, r⟩ := R
  exact ⟨R, ⟨o, r.obj⟩, fun h1 h2 p k => SetX.keep p k⟩
theorem strs_look : ∀ {its : List Value} {xs : List Str}, StrsAre its xs → ∀ (i : Nat) (v : Value), its[i]? = some v → ∃ x t, xs[i]? = some x ∧ v = .str x t
  | _, _, .nil, i, v, e => by simp at e
  | _, _, .cons x t r, 0, v, e => by
    simp at e
    exact ⟨x, t, by simp, e.symm⟩
  | _, _, .cons x t r, i + 1, v, e => by
    obtain ⟨y, u, h1, h2⟩ := strs_look r i v (by simpa using e)
    exact ⟨y, u, by simpa using h1, h2⟩
section
variable {X : Cx}
theorem cr_setX (hc : X.calm = true) : CallR X (.type "set") (fun vs H Q => ∃ (a : Addr) (xs : List Str), vs = [V.ref a] ∧ SqL X.K H a (xs.map V.str) ∧ xs.length ≤ 1000 ∧ ∀ p, H p = none → Q (.ref p) (upd H p (SetXO X.w p xs))) := by
  intro pins s σ H vs us Q I r ⟨a, xs, ev, hs, hx, q⟩
  subst ev
  rw [Vals.ref1 r]
  obtain ⟨its, rv, hl, hz⟩ := I.list hs
  have st := rv.strs
  have hlen : its.length = xs.length := by
    have := rv.length
    simpa using this.symm
  have hroom : xs.length + 1 < scanBound := by
    have : (1002 : Nat) < scanBound := by unfold scanBound; omega
    omega
  refine callX xs (I.ok.hd hc) hl.isList (fun i v e => strs_look st i v (by simpa using e)) (by simp [hlen]) hroom fun h' tk R hk => ?_
  exact ⟨.ref _, upd H s.heap.objs.size (SetXO X.w s.heap.objs.size xs), I.laid (t' := tk) (fun b u e => hk b u (Heap.lt_size e) e) (Nat.le_refl _) (setXO_ok R), rfl, q _ (I.hok.fresh (Nat.le_refl _))⟩
theorem cr_sortX (hc : X.calm = true) : CallR X (.builtin "sorted") (fun vs H Q => ∃ (a : Addr) (ks : List Str), vs = [V.ref a] ∧ H a = some (SetXO X.w a ks) ∧
    ∀ (ys : List Str) (p : Addr), sortedS ys = true → ys.Nodup → (∀ z, z ∈ ys ↔ z ∈ ks) → H p = none → Q (.ref p) (upd H p (.lst (ys.map V.str)))) := by
  intro pins s σ H vs us Q I r ⟨a, ks, ev, ha, q⟩
  subst ev
  rw [Vals.ref1 r]
  have R : SetX X.w s.heap a ks := (I.hok a _ ha).1
  refine sortedX R (I.ok.hd hc) fun s' p out c ys k g o hp hg hi hs nd hm hl => ?_
  have hlen : (ys.map V.str).length ≤ sizeLine := by rw [List.length_map]; exact hl
  have hn : H p = none := I.hok.fresh hp
  have J : Inv X pins σ (upd H p (.lst (ys.map V.str))) { s with heap := s'.heap, gens := s'.gens, drawn := s'.drawn, toks := s'.toks } :=
    I.call (ch := []) (Un.laid k hp hn) (I.hok.laid k hp ⟨hlen, out.toList, c, vals_of_strs hi, hg⟩) (by rw [g]; exact I.bare) (fun _ z => nomatch z)
  have e : s' = { s with heap := s'.heap, gens := s'.gens, drawn := s'.drawn, toks := s'.toks } := by
    obtain ⟨x1, x2, x3, x4, x5⟩ := s'
    obtain ⟨y1, y2, y3, y4, y5⟩ := s
    have o : x5 = y5 := o
    rw [o]
  rw [e]
  exact ⟨.ref p, _, J, rfl, q ys p hs nd hm hn⟩
/-- sorted(set(xs)), xs a list of texts -/
def dSortSet (t : PTA) : PT0 := fun ρ P => t ρ fun xs => ∃ ss : List Str, xs = [.list (ss.map .str)] ∧ ss.length ≤ 1000 ∧ ∀ ys : List Str, sortedS ys = true → ys.Nodup → (∀ z, z ∈ ys ↔ z ∈ ss) → P (.list (ys.map .str))
theorem de_sortSet {a : Expr} {t : PTA} {p p2 pos pos2 : Pos} (hc : X.calm = true) (hm : X.mg "sorted" = none) (hm2 : X.mg "set" = none) (ha : DA X [a] t) (hg : Gl X "sorted" := by rfl) (hg2 : Gl X "set" := by rfl)
    (hv : bootBuiltins "sorted" = some (.builtin "sorted") := by decide +kernel) (hv2 : bootBuiltins "set" = some (.type "set") := by decide +kernel)
    (he : starEach [a] X.env = (false, eval a X.env) :: starEach [] X.env := by rfl) (hpl : (backTo pos2 (starEach [] X.env)).any (·.1) = false := by rfl)
    (he2 : starEach [.Call (.Name "set" p2) [a] [] pos2] X.env = (false, eval (.Call (.Name "set" p2) [a] [] pos2) X.env) :: starEach [] X.env := by rfl) (hpl2 : (backTo pos (starEach [] X.env)).any (·.1) = false := by rfl) :
    DE X (.Call (.Name "sorted" p) [.Call (.Name "set" p2) [a] [] pos2] [] pos) (dSortSet t) :=
  PE.weak (pe_callB (cr_sortX hc) hg hm hv (pa_cons (pe_callTy (cr_setX hc) hg2 hm2 hv2 ha (he := he) (hpl := hpl)) pa_nil he2) (he := he2) (hpl := hpl2)) fun σ H Q ⟨r, G, ρ, P, E, p, q⟩ => by
    refine ⟨r, G, ρ, _, E, p, fun vs xs G1 H1 p1 W1 R1 => ?_⟩
    obtain ⟨ss, rfl, hl, p1⟩ := p1
    have S := W1.start E.st
    cases R1 with
    | cons h1 h2 =>
      cases h2
      cases h1 with
      | lst e r1 =>
        have e1 := r1.strs
        subst e1
        refine ⟨_, ss, rfl, SqL.of (S.gh _ _ e), hl, fun a1 f1 => ?_⟩
        have W2 := S.lay (o := SetXO X.w a1 ss) f1
        have S2 := W2.start S
        refine ⟨a1, ss, rfl, upd_same, fun ys a2 k1 k2 k3 f2 => ?_⟩
        exact q _ _ _ _ (p1 ys k1 k2 k3) ((W1.trans W2).trans (S2.lay f2)) (.lst upd_same Reps.of_strs)
end
end PD
namespace PD
open PySem PySem.Spec PyProof.Rows L2
section
variable {X : Cx}
/-- x in a list or tuple of ints -/
def fInI : F2 := fun x y P => ∃ (n : Int) (ns : List Int), x = .int n ∧ (y = .tuple (ns.map .int) ∨ y = .list (ns.map .int)) ∧ P (.bool (decide (n ∈ ns)))
theorem inV_ints (n : Int) : ∀ ns : List Int, inV (V.int n) (ns.map V.int) = decide (n ∈ ns)
  | [] => by simp [inV]
  | z :: ns => by
    have ih := inV_ints n ns
    unfold inV at ih ⊢
    rw [List.map_cons, List.any_cons, ih]
    by_cases h : z = n
    · subst h; simp [eqV]
    · have h2 : ¬ n = z := fun e => h e.symm
      simp [eqV, h, h2]
theorem flat_ints : ∀ ns : List Int, (ns.map V.int).all flatV = true
  | [] => rfl
  | z :: ns => by rw [List.map_cons, List.all_cons, flat_ints ns]; rfl
theorem do_inI : DO X (compareOp .In) fInI := by
  intro pins s σ H x y v u Q I rx ry h
  obtain ⟨r, G, d, e, P, S, hd, he, ⟨n, ns, rfl, hy, p⟩, q⟩ := h
  cases hd
  rcases hy with rfl | rfl
  · cases he with
    | tup e1 r1 =>
      rw [ints_eq (dInts_map ns)] at r1
      have e2 := r1.ints
      subst e2
      exact op_in_seq pins s σ H _ _ v u Q I rx ry ⟨_, _, rfl, .inr (same_seqP S.gh e1), rfl, flat_ints ns, by
        rw [if_neg (by decide), inV_ints]
        exact q _ _ G H p S.grow (.bl _)⟩
  · cases he with
    | lst e1 r1 =>
      rw [ints_eq (dInts_map ns)] at r1
      have e2 := r1.ints
      subst e2
      exact op_in_seq pins s σ H _ _ v u Q I rx ry ⟨_, _, rfl, .inl (SqL.of (S.gh _ _ e1)), rfl, flat_ints ns, by
        rw [if_neg (by decide), inV_ints]
        exact q _ _ G H p S.grow (.bl _)⟩
end
end PD
/-! PDo: instances of one's own: made, read, changed by their methods; frozen for a method that only reads. -/
namespace PD
open PySem PySem.Spec PyProof.Rows L2

def frzF : List (Str × Fv) → List (Str × Dt)
  | [] => []
  | (f, .d x) :: fs => (f, x) :: frzF fs
  | (f, .own _ xs) :: fs => (f, .list xs) :: frzF fs
/-- the store of a field -/
def putV (f : Str) (v : Fv) : List (Str × Fv) → List (Str × Fv)
  | [] => [(f, v)]
  | (g, w) :: fs => if g = f then (g, v) :: fs else (g, w) :: putV f v fs
section
variable {K : Fg} {r0 r : Option Addr} {G0 H0 G H G' H' G1 H1 G2 H2 : Hp} {σ σ' : L2.St} {ρ ρ' : List PV} {C a : Addr} {fs fs' : List (Str × Fv)}
theorem RepF.lookup {f : Str} {x : Dt} : ∀ {vs : List (Str × V)} {fs : List (Str × Dt)}, RepF K G vs fs → fs.lookup f = some x → ∃ v, vs.lookup f = some v ∧ Rep K G v x
  | _, _, .nil, e => by simp at e
  | _, _, .cons (f := g) (vs := vs) (ds := ds) a b, e => by
    rw [List.lookup_cons] at e
    rw [List.lookup_cons]
    cases h : f == g with
    | true => rw [h] at e; cases e; exact ⟨_, rfl, a⟩
    | false => rw [h] at e; exact RepF.lookup b e
theorem ObF.lookup {f : Str} {x : Dt} : ∀ {vs : List (Str × V)} {fs : List (Str × Fv)}, ObF K G H vs fs → fs.lookup f = some (.d x) → ∃ v, vs.lookup f = some v ∧ Rep K G v x
  | _, _, .nil, e => by simp at e
  | _, _, .d (f := g) a b, e => by
    rw [List.lookup_cons] at e
    rw [List.lookup_cons]
    cases h : f == g with
    | true => rw [h] at e; cases e; exact ⟨_, rfl, a⟩
    | false => rw [h] at e; exact ObF.lookup b e
  | _, _, .own (f := g) e1 a b, e => by
    rw [List.lookup_cons] at e
    rw [List.lookup_cons]
    cases h : f == g with
    | true => rw [h] at e; cases e
    | false => rw [h] at e; exact ObF.lookup b e
theorem ObF.lookupO {f : Str} {b : Addr} {x : List Dt} : ∀ {vs : List (Str × V)} {fs : List (Str × Fv)}, ObF K G H vs fs → fs.lookup f = some (.own b x) → vs.lookup f = some (.ref b) ∧ b ∈ fps fs ∧ ∃ ws, H b = some (.lst ws) ∧ Reps K G ws x
  | _, _, .nil, e => by simp at e
  | _, _, .d (f := g) a c, e => by
    rw [List.lookup_cons] at e
    rw [List.lookup_cons]
    cases h : f == g with
    | true => rw [h] at e; cases e
    | false =>
      rw [h] at e
      obtain ⟨h1, h2, h3⟩ := ObF.lookupO c e
      exact ⟨h1, h2, h3⟩
  | _, _, .own (f := g) e1 a c, e => by
    rw [List.lookup_cons] at e
    rw [List.lookup_cons]
    cases h : f == g with
    | true => rw [h] at e; cases e; exact ⟨rfl, List.mem_cons_self .., _, e1, a⟩
    | false =>
      rw [h] at e
      obtain ⟨h1, h2, h3⟩ := ObF.lookupO c e
      exact ⟨h1, List.mem_cons_of_mem _ h2, h3⟩
theorem ObF.names : ∀ {vs : List (Str × V)} {fs : List (Str × Fv)}, ObF K G H vs fs → vs.map (·.1) = fs.map (·.1)
  | _, _, .nil => rfl
  | _, _, .d a b => by simp [ObF.names b]
  | _, _, .own e a b => by simp [ObF.names b]
theorem lookup_none {α : Type} {m : Str} : ∀ {vs : List (Str × α)}, (vs.map (·.1)).all (fun x => m != x) = true → vs.lookup m = none
  | [], _ => rfl
  | (f, v) :: vs, h => by
    simp only [List.map_cons, List.all_cons, Bool.and_eq_true] at h
    rw [List.lookup_cons]
    have : (m == f) = false := by simpa [bne] using h.1
    rw [this]
    exact lookup_none h.2
theorem ObF.frozen {GP : Hp} (g : Same G GP) : ∀ {vs : List (Str × V)} {fs : List (Str × Fv)}, ObF K G H vs fs → (∀ b ∈ fps fs, GP b = H b) → RepF K GP vs (frzF fs)
  | _, _, .nil, _ => .nil
  | _, _, .d a b, h => .cons (a.mono g) (ObF.frozen g b h)
  | _, _, .own e a b, h => .cons (.lst ((h _ (List.mem_cons_self ..)).trans e) (a.mono g)) (ObF.frozen g b fun c hc => h c (List.mem_cons_of_mem _ hc))
theorem ObF.kind {b : Addr} : ∀ {vs : List (Str × V)} {fs : List (Str × Fv)}, ObF K G H vs fs → b ∈ fps fs → ∃ ws, H b = some (.lst ws)
  | _, _, .nil, h => by cases h
  | _, _, .d a c, h => ObF.kind c h
  | _, _, .own e a c, h => by
    cases h with
    | head => exact ⟨_, e⟩
    | tail _ h => exact ObF.kind c h
/-! ### a frozen look at it -/
open Classical in
noncomputable def pinG (G H : Hp) (ws : List Addr) : Hp := fun b => if b ∈ ws then H b else G b
open Classical in
noncomputable def cutG (G : Hp) (ws : List Addr) : Hp := fun b => if b ∈ ws then none else G b
theorem pin_in {ws : List Addr} {b : Addr} (h : b ∈ ws) : pinG G H ws b = H b := if_pos h
theorem pin_out {ws : List Addr} {b : Addr} (h : b ∉ ws) : pinG G H ws b = G b := if_neg h
theorem cut_in {ws : List Addr} {b : Addr} (h : b ∈ ws) : cutG G ws b = none := if_pos h
theorem cut_out {ws : List Addr} {b : Addr} (h : b ∉ ws) : cutG G ws b = G b := if_neg h
theorem pin_same {ws : List Addr} (hb : ∀ b ∈ ws, G b = none) : Same G (pinG G H ws) := fun b o e => by
  rw [pin_out fun z => by rw [hb b z] at e; cases e]
  exact e
theorem TbGo.cut {ws : List Addr} {H' : Hp} (hw : ∀ b ∈ ws, ∃ u, H b = some u ∧ NE u) (t : TbGo K (cutG H ws) H') : TbGo K H H' := by
  have up : ∀ {b u}, H b = some u → ((∃ ps, u = .tbl ps) ∨ ∃ φ, u = .ext φ) → cutG H ws b = some u := fun {b u} e z => by
    rw [cut_out fun y => ?_]
    · exact e
    · obtain ⟨u', e', n⟩ := hw b y
      rw [e'] at e
      cases e
      rcases z with ⟨ps, rfl⟩ | ⟨φ, rfl⟩
      · exact n.1 ps rfl
      · exact n.2 φ rfl
  refine ⟨fun P s => t.tb P ?_, fun P ps h => t.tt P ps (up h (.inl ⟨ps, rfl⟩)), fun b φ h => t.ex b φ (up h (.inr ⟨φ, rfl⟩))⟩
  obtain ⟨ps, h1, h2, h3⟩ := s
  refine ⟨ps, up h1 (.inl ⟨ps, rfl⟩), h2, fun pos cv hc => ?_⟩
  obtain ⟨c, e1, e2⟩ := h3 pos cv hc
  exact ⟨c, e1, up e2 (.inr ⟨_, rfl⟩)⟩
theorem Start.pin {ws : List Addr} (S : Start K r G H) (hw : ∀ b ∈ ws, ∃ u, H b = some u ∧ NE u) : Start K none (pinG G H ws) H := ⟨fun b o e => by
  by_cases h : b ∈ ws
  · rw [pin_in h] at e; exact e
  · rw [pin_out h] at e; exact S.gh _ _ e, fun a e => (by cases e), fun b ps e => by
  by_cases h : b ∈ ws
  · rw [pin_in h] at e
    obtain ⟨u, hu, n⟩ := hw b h
    rw [hu] at e
    exact n.1 ps (Option.some.inj e)
  · rw [pin_out h] at e; exact S.nt b ps e⟩
theorem Grow.unpin {ws : List Addr} (W : Grow K none (pinG G H ws) H G2 H2) (S : Start K r G H) (hb : ∀ b ∈ ws, G b = none) : Grow K r G H (cutG G2 ws) H2 := by
  have g : Same G (cutG G2 ws) := fun b o e => by
    have n : b ∉ ws := fun z => by rw [hb b z] at e; cases e
    rw [cut_out n]
    exact W.g b o ((pin_out n).trans e)
  refine ⟨g, fun b o _ n e => W.h b o (by simp) e n, fun b o e => ?_, fun b o e n => ?_, fun a e => ?_, W.t, fun b ps e => ?_⟩
  · by_cases h : b ∈ ws
    · rw [cut_in h] at e; cases e
    · rw [cut_out h] at e; exact W.gh _ _ e
  · by_cases h : b ∈ ws
    · exact cut_in h
    · rw [cut_out h]
      exact W.y b o e ((pin_out h).trans n)
  · have q := (S.row a e).2
    obtain ⟨_, _, _, _, _, h1, _⟩ := id q
    exact q.at g ((W.h a _ (by simp) h1).trans h1.symm)
  · by_cases h : b ∈ ws
    · rw [cut_in h] at e; cases e
    · rw [cut_out h] at e
      have := W.nt b ps e
      rwa [pin_out h] at this
def isIntB : Dt → Bool
  | .int _ => true
  | _ => false
def flatB : Dt → Bool
  | .int _ => true
  | .bool _ => true
  | .str _ => true
  | .none => true
  | .tuple xs => xs.all isIntB
  | _ => false
theorem reps_flat {ws : List Addr} : ∀ {vs : List V} {xs : List Dt}, xs.all isIntB = true → Reps K G2 vs xs → Reps K (cutG G2 ws) vs xs
  | _, _, _, .nil => .nil
  | _, _, h, .cons a b => by
    rw [List.all_cons, Bool.and_eq_true] at h
    refine .cons ?_ (reps_flat h.2 b)
    cases a with
    | int i => exact .int i
    | _ => exact absurd h.1 (by simp [isIntB])
theorem rep_flat {ws : List Addr} {v : V} {d : Dt} (hf : flatB d = true) (hk : ∀ b ∈ ws, ∀ xs o, G2 b ≠ some (.tup xs) ∧ G2 b ≠ some (.frz o (.tup xs))) (R : Rep K G2 v d) : Rep K (cutG G2 ws) v d := by
  cases R with
  | non => exact .non
  | bl b => exact .bl b
  | int i => exact .int i
  | str s => exact .str s
  | lst e q => exact absurd hf (by simp [flatB])
  | dic e q => exact absurd hf (by simp [flatB])
  | dicT e q => exact absurd hf (by simp [flatB])
  | tup e q =>
    rename_i c vs xs
    refine .tup ?_ (reps_flat (by simpa [flatB] using hf) q)
    exact (cut_out fun z => (hk c z vs default).1 e).trans e
theorem reps_args : ∀ {vs : List V} {xs : List Dt}, Reps K G vs xs → Args K r G vs (xs.map .d)
  | _, _, .nil => .nil
  | _, _, .cons a b => .cons a (reps_args b)
/-- a call of a method that only reads -/
theorem pure_call {F : PF} {vs : List V} {xs : List Dt} {P : Dt → Prop} {Q : VK} {E : XK} (S : Start K r G H) (O : ObR K G H C a fs) (hb : ∀ b ∈ a :: fps fs, G b = none ∧ r ≠ some b) (R : Reps K G vs xs)
    (p : F (.ins C (frzF fs) :: xs.map .d) fun d => flatB d = true ∧ P d) (q : ∀ v d G' H', P d → Grow K r G H G' H' → Rep K G' v d → Q v H') : liftF K F (.ref a :: vs) H Q E := by
  obtain ⟨⟨dx, ws, h1, h2⟩, nd⟩ := id O
  have g : Same G (pinG G H (a :: fps fs)) := pin_same fun b z => (hb b z).1
  refine ⟨none, pinG G H (a :: fps fs), .ins C (frzF fs) :: xs.map .d, _, S.pin O.there, .cons ⟨a, dx, ws, rfl, (pin_in (List.mem_cons_self ..)).trans h1, h2.frozen g fun b z => pin_in (List.mem_cons_of_mem _ z)⟩ (reps_args (R.mono g)), p, fun v d G' H' ⟨f, p'⟩ W R' => ?_⟩
  refine q v d _ H' p' (W.unpin S fun b z => (hb b z).1) (rep_flat f (fun b z xs o => ?_) R')
  have hk : (∃ dy us, H b = some (.ins C dy us)) ∨ ∃ us, H b = some (.lst us) := by
    cases z with
    | head => exact .inl ⟨_, _, h1⟩
    | tail _ z => exact .inr (h2.kind z)
  have e : ∀ u, H b = some u → G' b = some u := fun u hu => W.g b u ((pin_in z).trans hu)
  rcases hk with ⟨dy, us, hu⟩ | ⟨us, hu⟩
  · rw [e _ hu]; exact ⟨by simp, by simp⟩
  · rw [e _ hu]; exact ⟨by simp, by simp⟩
/-! ### what is one's own is changed, made -/
theorem EnvR.obAt (E : EnvR K r G H σ ρ) {i : Nat} (e : ρ[i]? = some (.obj C a fs)) : σ[i]? = some (some (.ref a)) ∧ ObR K G H C a fs ∧ ∀ b ∈ a :: fps fs, G b = none ∧ r ≠ some b := by
  obtain ⟨o, h1, rfl, h2, h3⟩ := E.slot i _ e
  exact ⟨h1, h2, h3⟩
theorem set_self {i : Nat} {p q : PV} (e : (ρ.set i p)[i]? = some q) : p = q := by
  rw [List.getElem?_set] at e
  simp only [if_true] at e
  split at e
  · cases e; rfl
  · cases e
theorem EnvS.putG {i : Nat} (E : EnvS K r0 G0 H0 r G H σ ρ) (e : ρ[i]? = some (.obj C a fs)) (g : Same G G') (hk : ∀ b o, r ≠ some b → b ∉ a :: fps fs → NT o → H b = some o → H' b = some o) (tg : TbGo K H H') (nt : ∀ b ps, G' b = some (.tbl ps) → G b = some (.tbl ps)) (gh : Same G' H')
    (y : ∀ b o, H b = some o → b ∉ a :: fps fs → G b = none → G' b = none) (row : ∀ c, r = some c → RowOk K G' H' c) (hO : ObR K G' H' C a fs') (hn : ∀ b ∈ a :: fps fs', (b ∈ a :: fps fs ∨ H b = none) ∧ G' b = none ∧ r ≠ some b) :
    EnvS K r0 G0 H0 r G' H' σ (ρ.set i (.obj C a fs')) := by
  obtain ⟨s1, O, hb⟩ := E.env.obAt e
  have hi : i < ρ.length := (List.getElem?_eq_some_iff.mp e).1
  have yo := E.yo i C a fs e
  have up : ∀ b o, H0 b = some o → r0 ≠ some b → NT o → H' b = some o := fun b o h n m => by
    refine hk b o (fun z => ?_) (fun z => by rw [yo b z] at h; cases h) m (E.gr.h b o n h m)
    rcases E.rr with er | ⟨c, er, hc⟩
    · exact n (er ▸ z)
    · rw [er] at z; cases z; rw [hc] at h; cases h
  have other : ∀ {j : Nat} {D d : Addr} {gs : List (Str × Fv)}, (ρ.set i (.obj C a fs'))[j]? = some (.obj D d gs) → (j = i ∧ D = C ∧ d = a ∧ gs = fs') ∨ (j ≠ i ∧ ρ[j]? = some (.obj D d gs)) := fun {j D d gs} ej => by
    rcases get_set_obj ej with ⟨h1, h2⟩ | h2
    · cases h2; exact .inl ⟨h1, rfl, rfl, rfl⟩
    · exact .inr h2
  have fresh : ∀ {b : Addr}, b ∈ a :: fps fs' → ∀ {u : HO}, H b = some u → b ∈ a :: fps fs := fun {b} h {u} hu => by
    rcases (hn b h).1 with z | z
    · exact z
    · rw [z] at hu; cases hu
  refine ⟨⟨⟨gh, fun c ec => ⟨?_, row c ec⟩, fun b ps e => E.env.st.nt b ps (nt b ps e)⟩, by simp [E.env.len], fun j q eq => ?_, fun j k c x' y' e1 e2 e3 e4 => ?_, fun k j D d gs ek => ⟨fun x ex b hb' => ?_, fun D2 d2 gs2 ej nk b hb' => ?_⟩⟩, ⟨E.gr.g.trans g, fun b o n m h => up b o h n m, gh, fun b o h n => ?_, fun c ec => ?_, E.gr.t.trans tg, fun b ps e => E.gr.nt b ps (nt b ps e)⟩, E.rr, E.rh, fun j c x e1 e2 => ?_, fun j D d gs ej b hb' => ?_⟩
  · obtain ⟨q1, q2⟩ := E.env.st.row c ec
    obtain ⟨_, _, _, _, _, h1, _⟩ := id q2
    exact y c _ h1 (fun z => (hb c z).2 ec) q1
  · by_cases hj : j = i
    · subst hj
      rw [List.getElem?_set_self hi] at eq
      cases eq
      exact ⟨_, s1, rfl, hO, fun b z => (hn b z).2⟩
    · rw [List.getElem?_set_ne (Ne.symm hj)] at eq
      obtain ⟨o', q1, q2⟩ := E.env.slot j q eq
      refine ⟨o', q1, ?_⟩
      cases q with
      | un => trivial
      | d x =>
        obtain ⟨v, rfl, q2⟩ := q2
        exact ⟨v, rfl, q2.mono g⟩
      | own z =>
        obtain ⟨c, rfl, gc, rc, q3⟩ := q2
        have nc : c ∉ a :: fps fs := fun w => (E.env.apart i j C a fs e).1 z eq c w q1
        obtain ⟨u, hu, no⟩ := q3.some
        exact ⟨c, rfl, y c u hu nc gc, rc, q3.at g ((hk c u rc nc no.1 hu).trans hu.symm)⟩
      | row => exact q2
      | scr ns =>
        obtain ⟨c, rfl, q2⟩ := q2
        exact ⟨c, rfl, g.seq q2⟩
      | rng lo hi =>
        obtain ⟨c, rfl, q2⟩ := q2
        exact ⟨c, rfl, g _ _ q2⟩
      | ins D gs =>
        obtain ⟨c, dx, vs, rfl, q2, q3⟩ := q2
        exact ⟨c, dx, vs, rfl, g _ _ q2, q3.mono g⟩
      | obj D d gs =>
        obtain ⟨rfl, q3, q4⟩ := q2
        have nb : ∀ b ∈ d :: fps gs, b ∉ a :: fps fs := (E.env.apart j i D d gs eq).2 C a fs e hj
        refine ⟨rfl, q3.at g fun b hb' => ?_, fun b hb' => ?_⟩
        · obtain ⟨u, hu, no⟩ := q3.there b hb'
          exact (hk b u (q4 b hb').2 (nb b hb') no.1 hu).trans hu.symm
        · obtain ⟨u, hu, no⟩ := q3.there b hb'
          exact ⟨y b u hu (nb b hb') (q4 b hb').1, (q4 b hb').2⟩
      | fz p => exact fun G2 H2 g2 t2 => q2 G2 H2 (g.trans g2) (tg.trans t2)
  · rcases get_set_own e1 with ⟨_, z⟩ | ⟨n1, f1⟩
    · cases z
    rcases get_set_own e2 with ⟨_, z⟩ | ⟨n2, f2⟩
    · cases z
    exact E.env.dist j k c x' y' f1 f2 e3 e4
  · rcases get_set_own ex with ⟨_, z⟩ | ⟨n2, f2⟩
    · cases z
    rcases other ek with ⟨rfl, rfl, rfl, rfl⟩ | ⟨n1, f1⟩
    · intro z
      obtain ⟨c, h1, _, _, h2⟩ := E.env.getO f2
      rw [z] at h1
      cases h1
      obtain ⟨u, hu, _⟩ := h2.some
      exact (E.env.apart k j D d fs e).1 x f2 b (fresh hb' hu) z
    · exact (E.env.apart k j D d gs f1).1 x f2 b hb'
  · rcases other ek with ⟨rfl, rfl, rfl, rfl⟩ | ⟨n1, f1⟩
    · rcases other ej with ⟨rfl, _⟩ | ⟨n2, f2⟩
      · exact absurd rfl nk
      · intro z
        obtain ⟨u, hu, _⟩ := (E.env.obAt f2).2.1.there b z
        exact (E.env.apart k j D d fs e).2 D2 d2 gs2 f2 nk b (fresh hb' hu) z
    · rcases other ej with ⟨rfl, rfl, rfl, rfl⟩ | ⟨n2, f2⟩
      · intro z
        obtain ⟨u, hu, _⟩ := (E.env.obAt f1).2.1.there b hb'
        exact (E.env.apart k j D d gs f1).2 D2 d2 fs e nk b hb' (fresh z hu)
      · exact (E.env.apart k j D d gs f1).2 D2 d2 gs2 f2 nk b hb'
  · obtain ⟨u, hu⟩ := E.gr.there h
    exact y b u hu (fun z => by rw [yo b z] at h; cases h) (E.gr.y b o h n)
  · rcases E.rr with er | ⟨d, er, hd⟩
    · exact row c (er.trans ec)
    · obtain ⟨o, ho⟩ := E.rh c ec
      have q := E.gr.row c ec
      obtain ⟨_, _, _, _, _, h1, _⟩ := id q
      refine q.at g ((hk c _ (fun z => ?_) (fun z => by rw [yo c z] at ho; cases ho) (by intro _ z; cases z) h1).trans h1.symm)
      rw [er] at z; cases z; rw [hd] at ho; cases ho
  · rcases get_set_own e1 with ⟨_, z⟩ | ⟨n2, f2⟩
    · cases z
    exact E.yg j c x f2 e2
  · rcases other ej with ⟨rfl, rfl, rfl, rfl⟩ | ⟨n1, f1⟩
    · rcases (hn b hb').1 with z | z
      · exact yo b z
      · cases q : H0 b with
        | none => rfl
        | some u =>
          obtain ⟨u', hu⟩ := E.gr.there q
          rw [z] at hu; cases hu
    · exact E.yo j D d gs f1 b hb'
theorem EnvS.takeO {i : Nat} (E : EnvS K r0 G0 H0 r G H σ ρ) (W : Grow K r G H G' H') (hO : ObR K G' H' C a fs) (hn : ∀ b ∈ a :: fps fs, H b = none ∧ G' b = none ∧ r ≠ some b) (hi : i < ρ.length) :
    EnvS K r0 G0 H0 r G' H' (σ.set i (some (.ref a))) (ρ.set i (.obj C a fs)) := by
  have E1 := E.grow W
  have other : ∀ {j : Nat} {D d : Addr} {gs : List (Str × Fv)}, (ρ.set i (.obj C a fs))[j]? = some (.obj D d gs) → (j = i ∧ D = C ∧ d = a ∧ gs = fs) ∨ (j ≠ i ∧ ρ[j]? = some (.obj D d gs)) := fun {j D d gs} ej => by
    rcases get_set_obj ej with ⟨h1, h2⟩ | h2
    · cases h2; exact .inl ⟨h1, rfl, rfl, rfl⟩
    · exact .inr h2
  have new : ∀ {b : Addr}, b ∈ a :: fps fs → ∀ {u : HO}, H b ≠ some u := fun {b} h {u} hu => by rw [(hn b h).1] at hu; cases hu
  refine ⟨⟨E1.env.st, by simp [E.env.len], fun j q eq => ?_, fun j k c x' y' e1 e2 e3 e4 => ?_, fun k j D d gs ek => ⟨fun x ex b hb' => ?_, fun D2 d2 gs2 ej nk b hb' => ?_⟩⟩, E1.gr, E.rr, E.rh, fun j c x e1 e2 => ?_, fun j D d gs ej b hb' => ?_⟩
  · by_cases hj : j = i
    · subst hj
      rw [List.getElem?_set_self hi] at eq
      cases eq
      exact ⟨_, List.getElem?_set_self (by rw [E.env.len]; exact hi), rfl, hO, fun b z => (hn b z).2⟩
    · rw [List.getElem?_set_ne (Ne.symm hj)] at eq ⊢
      exact E1.env.slot j q eq
  · rcases get_set_own e1 with ⟨_, z⟩ | ⟨n1, f1⟩
    · cases z
    rcases get_set_own e2 with ⟨_, z⟩ | ⟨n2, f2⟩
    · cases z
    rw [List.getElem?_set_ne (Ne.symm n1)] at e3
    rw [List.getElem?_set_ne (Ne.symm n2)] at e4
    exact E.env.dist j k c x' y' f1 f2 e3 e4
  · rcases get_set_own ex with ⟨_, z⟩ | ⟨n2, f2⟩
    · cases z
    rw [List.getElem?_set_ne (Ne.symm n2)]
    rcases other ek with ⟨rfl, rfl, rfl, rfl⟩ | ⟨n1, f1⟩
    · intro z
      obtain ⟨c, h1, _, _, h2⟩ := E.env.getO f2
      rw [z] at h1
      cases h1
      obtain ⟨u, hu, _⟩ := h2.some
      exact new hb' hu
    · exact (E.env.apart k j D d gs f1).1 x f2 b hb'
  · rcases other ek with ⟨rfl, rfl, rfl, rfl⟩ | ⟨n1, f1⟩
    · rcases other ej with ⟨rfl, _⟩ | ⟨n2, f2⟩
      · exact absurd rfl nk
      · intro z
        obtain ⟨u, hu, _⟩ := (E.env.obAt f2).2.1.there b z
        exact new hb' hu
    · rcases other ej with ⟨rfl, rfl, rfl, rfl⟩ | ⟨n2, f2⟩
      · intro z
        obtain ⟨u, hu, _⟩ := (E.env.obAt f1).2.1.there b hb'
        exact new z hu
      · exact (E.env.apart k j D d gs f1).2 D2 d2 gs2 f2 nk b hb'
  · rcases get_set_own e1 with ⟨_, z⟩ | ⟨n2, f2⟩
    · cases z
    rw [List.getElem?_set_ne (Ne.symm n2)] at e2
    exact E.yg j c x f2 e2
  · rcases other ej with ⟨rfl, rfl, rfl, rfl⟩ | ⟨n1, f1⟩
    · cases q : H0 b with
      | none => rfl
      | some u =>
        obtain ⟨u', hu⟩ := E.gr.there q
        exact absurd hu (new hb')
    · exact E.yo j D d gs f1 b hb'
end
end PD
/-! PDv: rules over instances: fields, methods, a new one. -/
namespace PD
open PySem PySem.Spec PyProof.Rows L2

section
variable {X : Cx} {pos p0 apos : Pos} {C : Addr} {f : Str} {te : PT0} {e : Expr}
/-- self.f, self frozen -/
def dFldZ (i : Nat) (C : Addr) (f : Str) : PT0 := fun ρ P => ∃ fs, ρ[i]? = some (.ins C fs) ∧ ∃ x, fs.lookup f = some x ∧ P x
theorem de_fldZ (i : Nat) {x : Str} (T : Cls X.K C) (n : NoAttr X.K C f) (hN : X.N[i]? = some x := by rfl) (hv : Vis X.env.scope x := by first | exact Or.inl rfl | exact Or.inr (Or.inl rfl) | exact Or.inr (Or.inr rfl)) (hd : (x == ("__debug__" : Str)) = false := by decide)
    (hcd : (x == ("__classdict__" : Str)) = false := by decide) (hb : attributeBase (.Name x p0) f X.env (eval (.Name x p0) X.env) = eval (.Name x p0) X.env := by rfl) : DE X (.Attribute (.Name x p0) f pos) (dFldZ i C f) :=
  PE.weak (pe_fld (pe_var hN hv hd hcd) hb) fun σ H Q ⟨r, G, ρ, P, E, ⟨fs, e, y, el, p⟩, q⟩ => by
    obtain ⟨o, h1, a, dx, vs, rfl, h2, h3⟩ := E.slot i _ e
    obtain ⟨v, h4, h5⟩ := h3.lookup el
    exact ⟨.ref a, h1, a, C, dx, vs, v, rfl, E.st.gh _ _ h2, T, n, h4, q v y G H p E.st.grow h5⟩
/-- self.f, self one's own, the field data -/
def dFldO (i : Nat) (C : Addr) (f : Str) : PT0 := fun ρ P => ∃ a fs, ρ[i]? = some (.obj C a fs) ∧ ∃ x, fs.lookup f = some (.d x) ∧ P x
theorem de_fldO (i : Nat) {x : Str} (T : Cls X.K C) (n : NoAttr X.K C f) (hN : X.N[i]? = some x := by rfl) (hv : Vis X.env.scope x := by first | exact Or.inl rfl | exact Or.inr (Or.inl rfl) | exact Or.inr (Or.inr rfl)) (hd : (x == ("__debug__" : Str)) = false := by decide)
    (hcd : (x == ("__classdict__" : Str)) = false := by decide) (hb : attributeBase (.Name x p0) f X.env (eval (.Name x p0) X.env) = eval (.Name x p0) X.env := by rfl) : DE X (.Attribute (.Name x p0) f pos) (dFldO i C f) :=
  PE.weak (pe_fld (pe_var hN hv hd hcd) hb) fun σ H Q ⟨r, G, ρ, P, E, ⟨a, fs, e, y, el, p⟩, q⟩ => by
    obtain ⟨h1, ⟨⟨dx, vs, h2, h3⟩, nd⟩, hb⟩ := E.obAt e
    obtain ⟨v, h4, h5⟩ := h3.lookup el
    exact ⟨.ref a, h1, a, C, dx, vs, v, rfl, h2, T, n, h4, q v y G H p E.st.grow h5⟩
/-- is the field's value no list of its own -/
def noOwn (f : Str) (fs : List (Str × Fv)) : Bool := match fs.lookup f with
  | some (.own _ _) => false
  | _ => true
theorem putV_fps {f : Str} {x : Dt} : ∀ {fs : List (Str × Fv)}, noOwn f fs = true → fps (putV f (.d x) fs) = fps fs
  | [], _ => rfl
  | (g, w) :: fs, h => by
    unfold putV
    by_cases hg : g = f
    · rw [if_pos hg]
      subst hg
      unfold noOwn at h
      rw [List.lookup_cons] at h
      simp only [beq_self_eq_true] at h
      cases w with
      | d y => rfl
      | own b y => simp at h
    · rw [if_neg hg]
      have h' : noOwn f fs = true := by
        unfold noOwn at h ⊢
        rw [List.lookup_cons] at h
        have : (f == g) = false := by simpa [beq_eq_false_iff_ne] using fun z : f = g => hg z.symm
        rw [this] at h
        exact h
      cases w with
      | d y => exact putV_fps h'
      | own b y => show b :: fps (putV f (.d x) fs) = b :: fps fs; rw [putV_fps h']
theorem ObF.put {K : Fg} {G H : Hp} {v : V} {x : Dt} (R : Rep K G v x) : ∀ {vs : List (Str × V)} {fs : List (Str × Fv)}, ObF K G H vs fs → ObF K G H (putF f v vs) (putV f (.d x) fs)
  | _, _, .nil => .d R .nil
  | _, _, .d (f := g) (v := u) (vs := vs) (d := y) (fs := fs) a b => by
    show ObF K G H (if g = f then (g, v) :: vs else (g, u) :: putF f v vs) (if g = f then (g, .d x) :: fs else (g, .d y) :: putV f (.d x) fs)
    by_cases h : g = f
    · rw [if_pos h, if_pos h]; exact .d R b
    · rw [if_neg h, if_neg h]; exact .d a (ObF.put R b)
  | _, _, .own (f := g) (b := c) (vs := vs) (xs := y) (fs := fs) e1 a b => by
    show ObF K G H (if g = f then (g, v) :: vs else (g, .ref c) :: putF f v vs) (if g = f then (g, .d x) :: fs else (g, .own c y) :: putV f (.d x) fs)
    by_cases h : g = f
    · rw [if_pos h, if_pos h]; exact .d R b
    · rw [if_neg h, if_neg h]; exact .own e1 a (ObF.put R b)
theorem ObF.putN {K : Fg} {G H : Hp} {c : Addr} {us : List V} {xs : List Dt} (e : H c = some (.lst us)) (R : Reps K G us xs) : ∀ {vs : List (Str × V)} {fs : List (Str × Fv)}, ObF K G H vs fs → ObF K G H (putF f (.ref c) vs) (putV f (.own c xs) fs)
  | _, _, .nil => .own e R .nil
  | _, _, .d (f := g) (v := u) (vs := vs) (d := y) (fs := fs) a b => by
    show ObF K G H (if g = f then (g, .ref c) :: vs else (g, u) :: putF f (.ref c) vs) (if g = f then (g, .own c xs) :: fs else (g, .d y) :: putV f (.own c xs) fs)
    by_cases h : g = f
    · rw [if_pos h, if_pos h]; exact .own e R b
    · rw [if_neg h, if_neg h]; exact .d a (ObF.putN e R b)
  | _, _, .own (f := g) (b := d0) (vs := vs) (xs := y) (fs := fs) e1 a b => by
    show ObF K G H (if g = f then (g, .ref c) :: vs else (g, .ref d0) :: putF f (.ref c) vs) (if g = f then (g, .own c xs) :: fs else (g, .own d0 y) :: putV f (.own c xs) fs)
    by_cases h : g = f
    · rw [if_pos h, if_pos h]; exact .own e R b
    · rw [if_neg h, if_neg h]; exact .own e1 a (ObF.putN e R b)
theorem putF_len (f : Str) (v : V) : ∀ fs : List (Str × V), (putF f v fs).length ≤ fs.length + 1
  | [] => Nat.le_refl _
  | (g, w) :: fs => by
    show (if g = f then (g, v) :: fs else (g, w) :: putF f v fs).length ≤ _
    by_cases h : g = f
    · rw [if_pos h]; simp
    · rw [if_neg h]; have := putF_len f v fs; simp; omega
theorem ObF.length {K : Fg} {G H : Hp} : ∀ {vs : List (Str × V)} {fs : List (Str × Fv)}, ObF K G H vs fs → vs.length = fs.length
  | _, _, .nil => rfl
  | _, _, .d a b => by simp [ObF.length b]
  | _, _, .own e a b => by simp [ObF.length b]
/-- self's own record is changed, its lists stay -/
theorem EnvS.putF {K : Fg} {r0 r : Option Addr} {G0 H0 G H : Hp} {σ : L2.St} {ρ : List PV} {a : Addr} {fs : List (Str × Fv)} {i : Nat} {v : V} {x : Dt} {dx : Addr} {vs : List (Str × V)} (E : EnvS K r0 G0 H0 r G H σ ρ) (e : ρ[i]? = some (.obj C a fs)) (h1 : H a = some (.ins C dx vs)) (h2 : ObF K G H vs fs) (no : noOwn f fs = true) (R : Rep K G v x) :
    EnvS K r0 G0 H0 r G (upd H a (.ins C dx (L2.putF f v vs))) σ (ρ.set i (.obj C a (putV f (.d x) fs))) := by
  obtain ⟨s1, O, hb⟩ := E.env.obAt e
  have nd := O.nd
  have na : ∀ b ∈ fps fs, b ≠ a := fun b z w => by subst w; exact (List.nodup_cons.mp nd).1 z
  refine E.putG e (Same.refl _) (fun b o n nb _ hb' => ?_) (.upd (ne_at h1 ne_ins)) (fun _ _ z => z) (fun b o g => ?_) (fun _ _ _ _ z => z) (fun c ec => ?_) ⟨⟨dx, _, upd_same, ObF.put R (h2.at (Same.refl _) fun b z => upd_ne (na b z))⟩, by rw [putV_fps no]; exact nd⟩ (fun b z => ?_)
  · rw [upd_ne fun w => by subst w; exact nb (List.mem_cons_self ..)]; exact hb'
  · rw [upd_ne fun w => by subst w; rw [(hb _ (List.mem_cons_self ..)).1] at g; cases g]; exact E.env.st.gh _ _ g
  · obtain ⟨_, q⟩ := E.env.st.row c ec
    exact q.at (Same.refl _) (upd_ne fun w => by subst w; exact (hb _ (List.mem_cons_self ..)).2 ec)
  · rw [putV_fps no] at z
    exact ⟨.inl z, hb b z⟩
/-- self.f = e, e data -/
def sFldD (i : Nat) (C : Addr) (f : Str) (te : PT0) : PTS := fun P ρ => te ρ fun x => ∃ a fs, ρ[i]? = some (.obj C a fs) ∧ fs.length < 1000 ∧ noOwn f fs = true ∧ P.nx (ρ.set i (.obj C a (putV f (.d x) fs)))
theorem ds_fldD (i : Nat) {x : Str} (T : Cls X.K C) (n : NoAttr X.K C f) (he : DE X e te) (hN : X.N[i]? = some x := by rfl) (hv : Vis X.env.scope x := by first | exact Or.inl rfl | exact Or.inr (Or.inl rfl) | exact Or.inr (Or.inr rfl)) (hd : (x == ("__debug__" : Str)) = false := by decide)
    (hcd : (x == ("__classdict__" : Str)) = false := by decide) (hs : swapsWith e (some (.Attribute (.Name x p0) f apos)) pos.line X.env = pure false := by rfl) : DS X (.Assign [.Attribute (.Name x p0) f apos] e pos) (sFldD i C f te) :=
  PS.weak (ps_fld (pe_var hN hv hd hcd) he hs) fun Dn σ H ⟨r0, G0, H0, r, G, ρ, P, E, p, q⟩ => ⟨r, G, ρ, _, E.env, p, fun v y G1 H1 ⟨a, fs, e, hl, no, p1⟩ W R => by
    have E1 := E.grow W
    obtain ⟨h1, ⟨⟨dx, vs, h2, h3⟩, nd⟩, hb⟩ := E1.env.obAt e
    exact ⟨.ref a, h1, a, C, dx, vs, rfl, h2, T, n, by rw [h3.length]; exact hl, q.nx _ _ _ _ _ p1 (E1.putF e h2 h3 no R)⟩⟩
/-- self.f += e, ints -/
def sFldA (i : Nat) (C : Addr) (f : Str) (te : PT0) : PTS := fun P ρ => ∃ a fs, ρ[i]? = some (.obj C a fs) ∧ ∃ m : Int, fs.lookup f = some (.d (.int m)) ∧ te ρ fun y => ∃ k : Int, y = .int k ∧ fs.length < 1000 ∧ P.nx (ρ.set i (.obj C a (putV f (.d (.int (m + k))) fs)))
theorem ds_fldA (i : Nat) {x : Str} (T : Cls X.K C) (n : NoAttr X.K C f) (he : DE X e te) (hN : X.N[i]? = some x := by rfl) (hv : Vis X.env.scope x := by first | exact Or.inl rfl | exact Or.inr (Or.inl rfl) | exact Or.inr (Or.inr rfl)) (hd : (x == ("__debug__" : Str)) = false := by decide)
    (hcd : (x == ("__classdict__" : Str)) = false := by decide) : DS X (.AugAssign (.Attribute (.Name x p0) f apos) .Add e pos) (sFldA i C f te) :=
  PS.weak (ps_fldaug (pe_var hN hv hd hcd) he in_add) fun Dn σ H ⟨r0, G0, H0, r, G, ρ, P, E, ⟨a, fs, e, m, el, p⟩, q⟩ => by
    obtain ⟨h1, ⟨⟨dx, vs, h2, h3⟩, nd⟩, hb⟩ := E.env.obAt e
    obtain ⟨v, h4, h5⟩ := h3.lookup el
    cases h5
    refine ⟨.ref a, h1, a, C, dx, vs, _, rfl, h2, T, n, h4, r, G, ρ, _, E.env, p, fun v y G1 H1 ⟨k, ey, hl, p1⟩ W R => ?_⟩
    subst ey
    cases R
    have E1 := E.grow W
    obtain ⟨g1, ⟨⟨dx', vs', g2, g3⟩, nd'⟩, hb'⟩ := E1.env.obAt e
    have no : noOwn f fs = true := by unfold noOwn; rw [el]
    exact ⟨m, k, rfl, rfl, dx', vs', g2, by rw [g3.length]; exact hl, q.nx _ _ _ _ _ p1 (E1.putF e g2 g3 no (.int _))⟩
/-- self.f = [], a list of self's own -/
theorem putN_fps {f : Str} {c : Addr} {xs : List Dt} : ∀ {fs : List (Str × Fv)}, fs.lookup f = none → fps (putV f (.own c xs) fs) = fps fs ++ [c]
  | [], _ => rfl
  | (g, w) :: fs, h => by
    rw [List.lookup_cons] at h
    cases hg : f == g with
    | true => rw [hg] at h; cases h
    | false =>
      rw [hg] at h
      have ne : ¬ g = f := fun z => by subst z; simp at hg
      unfold putV
      rw [if_neg ne]
      cases w with
      | d y => exact putN_fps h
      | own b y => show b :: fps (putV f (.own c xs) fs) = b :: (fps fs ++ [c]); rw [putN_fps h]
def sFldL (i : Nat) (C : Addr) (f : Str) : PTS := fun P ρ => ∃ a fs, ρ[i]? = some (.obj C a fs) ∧ fs.length < 1000 ∧ fs.lookup f = none ∧ ∀ c : Addr, P.nx (ρ.set i (.obj C a (putV f (.own c []) fs)))
theorem ds_fldL (i : Nat) {x : Str} {p2 : Pos} (T : Cls X.K C) (n : NoAttr X.K C f) (hN : X.N[i]? = some x := by rfl) (hv : Vis X.env.scope x := by first | exact Or.inl rfl | exact Or.inr (Or.inl rfl) | exact Or.inr (Or.inr rfl)) (hd : (x == ("__debug__" : Str)) = false := by decide)
    (hcd : (x == ("__classdict__" : Str)) = false := by decide) (hs : swapsWith (.List [] p2) (some (.Attribute (.Name x p0) f apos)) pos.line X.env = pure false := by rfl) : DS X (.Assign [.Attribute (.Name x p0) f apos] (.List [] p2) pos) (sFldL i C f) :=
  PS.weak (ps_fld (pe_var hN hv hd hcd) (pe_lst pa_nil) hs) fun Dn σ H ⟨r0, G0, H0, r, G, ρ, P, E, ⟨a, fs, e, hl, no, p1⟩, q⟩ => by
    obtain ⟨h1, ⟨⟨dx, vs, h2, h3⟩, nd⟩, hb⟩ := E.env.obAt e
    refine ⟨by show 0 ≤ sizeLine; decide, fun c hc => ⟨.ref a, h1, a, C, dx, vs, rfl, ?_, T, n, by rw [h3.length]; exact hl, ?_⟩⟩
    · rw [upd_ne (ne_of_none h2 hc)]; exact h2
    · have nac : a ≠ c := ne_of_none h2 hc
      have nb : ∀ b ∈ fps fs, b ≠ c := fun b z => by
        obtain ⟨u, hu, _⟩ := h3.there b z
        exact ne_of_none hu hc
      have na : ∀ b ∈ fps fs, b ≠ a := fun b z w => by subst w; exact (List.nodup_cons.mp nd).1 z
      have h3' : ObF X.K G (upd (upd H c (.lst [])) a (.ins C dx (L2.putF f (.ref c) vs))) vs fs := h3.at (Same.refl _) fun b z => by rw [upd_ne (na b z), upd_ne (nb b z)]
      refine q.nx _ _ _ _ _ (p1 c) (E.putG e (Same.refl _) (fun b o n nb' _ hb' => ?_) (TbGo.trans (.upd (ne_no hc)) (.upd (ne_at ((upd_ne nac).trans h2) ne_ins))) (fun _ _ z => z) (fun b o g => ?_) (fun _ _ _ _ z => z) (fun d ec => ?_) ⟨⟨dx, _, upd_same, ObF.putN (by rw [upd_ne nac.symm, upd_same]) .nil h3'⟩, ?_⟩ (fun b z => ?_))
      · rw [upd_ne (fun w => by subst w; exact nb' (List.mem_cons_self ..)), upd_ne (ne_of_none hb' hc)]; exact hb'
      · rw [upd_ne (fun w => by subst w; rw [(hb _ (List.mem_cons_self ..)).1] at g; cases g), upd_ne (ne_of_none (E.env.st.gh _ _ g) hc)]; exact E.env.st.gh _ _ g
      · obtain ⟨_, q⟩ := E.env.st.row d ec
        obtain ⟨_, _, _, _, _, q1, _⟩ := id q
        exact q.at (Same.refl _) (by rw [upd_ne (fun w => by subst w; exact (hb _ (List.mem_cons_self ..)).2 ec), upd_ne (ne_of_none q1 hc)])
      · rw [putN_fps no, ← List.cons_append, List.nodup_append]
        refine ⟨nd, by simp, fun b z d w => ?_⟩
        rw [List.mem_singleton] at w
        subst w
        cases z with
        | head => exact nac
        | tail _ z => exact nb b z
      · rw [putN_fps no, ← List.cons_append, List.mem_append, List.mem_singleton] at z
        rcases z with z | rfl
        · exact ⟨.inl z, hb b z⟩
        · exact ⟨.inr hc, E.env.st.gh.free hc, E.env.st.rowNe hc⟩
/-- self.f.append(e) -/
def appV (f : Str) (x : Dt) : List (Str × Fv) → List (Str × Fv)
  | [] => []
  | (g, .d y) :: fs => (g, .d y) :: appV f x fs
  | (g, .own b xs) :: fs => if g = f then (g, .own b (xs ++ [x])) :: fs else (g, .own b xs) :: appV f x fs
theorem appV_fps {f : Str} {x : Dt} : ∀ {fs : List (Str × Fv)}, fps (appV f x fs) = fps fs
  | [] => rfl
  | (g, .d y) :: fs => appV_fps (fs := fs)
  | (g, .own b xs) :: fs => by
    unfold appV
    by_cases h : g = f
    · rw [if_pos h]; rfl
    · rw [if_neg h]; show b :: fps (appV f x fs) = b :: fps fs; rw [appV_fps]
theorem ObF.app {K : Fg} {G H H' : Hp} {f : Str} {c : Addr} {us : List V} {v : V} {x : Dt} {xs : List Dt} (hc : H' c = some (.lst (us ++ [v]))) (hu : H c = some (.lst us)) (R : Rep K G v x) (ho : ∀ b, b ≠ c → ∀ o, H b = some o → H' b = some o) :
    ∀ {vs : List (Str × V)} {fs : List (Str × Fv)}, ObF K G H vs fs → (fps fs).Nodup → fs.lookup f = some (.own c xs) → ObF K G H' vs (appV f x fs)
  | _, _, .nil, _, e => by simp at e
  | _, _, .d (f := g) (v := u) (vs := vs) (d := y) (fs := fs) a b, nd, e => by
    rw [List.lookup_cons] at e
    cases h : f == g with
    | true => rw [h] at e; cases e
    | false => rw [h] at e; exact ObF.d a (ObF.app hc hu R ho b nd e)
  | _, _, .own (f := g) (b := d0) (vs := vs) (xs := y) (fs := fs) e1 a b, nd, e => by
    rw [List.lookup_cons] at e
    have nd1 := (List.nodup_cons.mp (show (d0 :: fps fs).Nodup from nd))
    cases h : f == g with
    | true =>
      rw [h] at e
      cases e
      rw [hu] at e1
      cases e1
      have hg : g = f := (by simpa using h : f = g).symm
      unfold appV
      rw [if_pos hg]
      refine .own hc (a.snoc R) (b.at (Same.refl _) fun b' z => ?_)
      obtain ⟨u, hu', _⟩ := b.there b' z
      exact (ho b' (fun w => by subst w; exact nd1.1 z) u hu').trans hu'.symm
    | false =>
      rw [h] at e
      have hg : ¬ g = f := fun z => by subst z; simp at h
      unfold appV
      rw [if_neg hg]
      have ne : d0 ≠ c := fun z => by subst z; exact nd1.1 (b.lookupO e).2.1
      exact .own (ho d0 ne _ e1) a (ObF.app hc hu R ho b nd1.2 e)
def sFldApp (i : Nat) (C : Addr) (f : Str) (te : PT0) : PTS := fun P ρ => ∃ a fs, ρ[i]? = some (.obj C a fs) ∧ ∃ c xs, fs.lookup f = some (.own c xs) ∧ te ρ fun y => xs.length < sizeLine ∧ P.nx (ρ.set i (.obj C a (appV f y fs)))
theorem ds_fldApp (i : Nat) {x : Str} {cpos ap2 : Pos} (T : Cls X.K C) (n : NoAttr X.K C f) (he : DE X e te) (hN : X.N[i]? = some x := by rfl) (hv : Vis X.env.scope x := by first | exact Or.inl rfl | exact Or.inr (Or.inl rfl) | exact Or.inr (Or.inr rfl)) (hd : (x == ("__debug__" : Str)) = false := by decide)
    (hcd : (x == ("__classdict__" : Str)) = false := by decide) (hb : attributeBase (.Name x p0) f X.env (eval (.Name x p0) X.env) = eval (.Name x p0) X.env := by rfl)
    (hs : starEach (e :: []) X.env = (false, eval e X.env) :: starEach [] X.env := by rfl) (hbase : attributeBase (.Attribute (.Name x p0) f ap2) "append" X.env (eval (.Attribute (.Name x p0) f ap2) X.env) = eval (.Attribute (.Name x p0) f ap2) X.env := by rfl)
    (hfew : ((backTo cpos (starEach (e :: []) X.env)).all (fun x => !x.1) && (backToKw cpos (keywordEach [] X.env)).all (fun x => x.1.isSome) && decide ((e :: ([] : List Expr)).length + ([] : List Keyword).length + (if ([] : List Keyword).isEmpty then 0 else 1) < 30)) = true := by rfl)
    (hline : (apos.endLine == cpos.line) = true := by rfl) (hplain : (backTo cpos (starEach [] X.env)).any (·.1) = false := by rfl) (hsw : swapsWith (.Call (.Attribute (.Attribute (.Name x p0) f ap2) "append" apos) [e] [] cpos) none pos.line X.env = pure false := by rfl) :
    DS X (.Expr (.Call (.Attribute (.Attribute (.Name x p0) f ap2) "append" apos) [e] [] cpos) pos) (sFldApp i C f te) :=
  PS.weak (ps_expr (pe_bm PySem.F.plainAttrs_list PySem.F.slot_list_append PySem.F.type_list_append mt_append (pe_fld (pe_var hN hv hd hcd) hb) (pa_cons he pa_nil hs) hbase hfew hline hs hplain) hsw) fun Dn σ H ⟨r0, G0, H0, r, G, ρ, P, E, ⟨a, fs, e, c, xs, el, p⟩, q⟩ => by
    obtain ⟨h1, ⟨⟨dx, vs, h2, h3⟩, nd⟩, hb⟩ := E.env.obAt e
    obtain ⟨l1, l2, us, l3, l4⟩ := h3.lookupO el
    refine ⟨.ref a, h1, a, C, dx, vs, _, rfl, h2, T, n, l1, .inl ⟨rfl, _, SqL.of l3⟩, r, G, ρ, _, E.env, p, fun v y G1 H1 ⟨hl, p1⟩ W R => ?_⟩
    have E1 := E.grow W
    obtain ⟨g1, ⟨⟨dx', vs', g2, g3⟩, nd'⟩, hb'⟩ := E1.env.obAt e
    obtain ⟨m1, m2, us', m3, m4⟩ := g3.lookupO el
    have nac : a ≠ c := fun z => by subst z; exact (List.nodup_cons.mp nd').1 m2
    refine ⟨c, us', v, rfl, rfl, m3, by rw [m4.length]; exact hl, ?_⟩
    refine q.nx _ _ _ _ _ p1 (E1.putG e (Same.refl _) (fun b o n nb' _ hb'' => ?_) (.upd (ne_at m3 ne_lst)) (fun _ _ z => z) (fun b o g => ?_) (fun _ _ _ _ z => z) (fun d ec => ?_) ⟨⟨dx', vs', (upd_ne nac).trans g2, ObF.app upd_same m3 R (fun b z o hb'' => (upd_ne z).trans hb'') g3 (List.nodup_cons.mp nd').2 el⟩, by rw [appV_fps]; exact nd'⟩ (fun b z => ?_))
    · rw [upd_ne fun w => by subst w; exact nb' (List.mem_cons_of_mem _ m2)]; exact hb''
    · rw [upd_ne fun w => by subst w; rw [(hb' _ (List.mem_cons_of_mem _ m2)).1] at g; cases g]; exact E1.env.st.gh _ _ g
    · obtain ⟨_, q⟩ := E1.env.st.row d ec
      exact q.at (Same.refl _) (upd_ne fun w => by subst w; exact (hb' _ (List.mem_cons_of_mem _ m2)).2 ec)
    · rw [appV_fps] at z
      exact ⟨.inl z, hb' b z⟩
end

/-! ### methods that change self, and give None -/
abbrev MF := List (Str × Fv) → List PV → (List (Str × Fv) → Prop) → Prop
def liftM (K : Fg) (C : Addr) (M : MF) : Sp := fun vs H Q _ => ∃ (r : Option Addr) (G : Hp) (a : Addr) (fs : List (Str × Fv)) (us : List V) (as : List PV) (P : List (Str × Fv) → Prop), vs = .ref a :: us ∧ Start K r G H ∧ ObR K G H C a fs ∧ (∀ b ∈ a :: fps fs, G b = none ∧ r ≠ some b) ∧ Args K r G us as ∧ M fs as P ∧
  ∀ fs' G' H', P fs' → Same G G' → (∀ b o, r ≠ some b → b ∉ a :: fps fs → NT o → H b = some o → H' b = some o) → TbGo K H H' → (∀ b ps, G' b = some (.tbl ps) → G b = some (.tbl ps)) → Same G' H' → (∀ b o, H b = some o → b ∉ a :: fps fs → G b = none → G' b = none) → (∀ c, r = some c → RowOk K G' H' c) → ObR K G' H' C a fs' →
    (∀ b ∈ a :: fps fs', (b ∈ a :: fps fs ∨ H b = none) ∧ G' b = none ∧ r ≠ some b) → Q .non H'
open Classical in
theorem env_startM {K : Fg} {r : Option Addr} {G H : Hp} {N : List Str} {us : List V} {as : List PV} {C a : Addr} {fs : List (Str × Fv)} (S : Start K r G H) (O : ObR K G H C a fs) (hb : ∀ b ∈ a :: fps fs, G b = none ∧ r ≠ some b) (A : Args K r G us as) :
    EnvS K r G (cutG H (a :: fps fs)) r G H (L2.start N (.ref a :: us)) (startP N (.obj C a fs :: as)) := by
  have hl : us.length = as.length := Paired.length A
  have own0 : ∀ {i : Nat} {x : Dt}, (startP N (.obj C a fs :: as))[i]? ≠ some (.own x) := fun {i x} e => by
    unfold startP at e
    cases i with
    | zero => simp at e
    | succ i =>
      rw [List.cons_append, List.getElem?_cons_succ] at e
      by_cases hi : i < as.length
      · rw [List.getElem?_append_left hi] at e
        obtain ⟨v, h1, h2⟩ := A.get e
        exact h2.elim
      · rw [List.getElem?_append_right (by omega), List.getElem?_replicate] at e
        split at e <;> cases e
  have obj0 : ∀ {i : Nat} {D d : Addr} {gs : List (Str × Fv)}, (startP N (.obj C a fs :: as))[i]? = some (.obj D d gs) → i = 0 ∧ D = C ∧ d = a ∧ gs = fs := fun {i D d gs} e => by
    unfold startP at e
    cases i with
    | zero => simp at e; exact ⟨rfl, e.1.symm, e.2.1.symm, e.2.2.symm⟩
    | succ i =>
      rw [List.cons_append, List.getElem?_cons_succ] at e
      by_cases hi : i < as.length
      · rw [List.getElem?_append_left hi] at e
        obtain ⟨v, h1, h2⟩ := A.get e
        exact h2.elim
      · rw [List.getElem?_append_right (by omega), List.getElem?_replicate] at e
        split at e <;> cases e
  have gr : Grow K r G (cutG H (a :: fps fs)) G H := ⟨Same.refl _, fun b o _ _ e => by
    by_cases z : b ∈ a :: fps fs
    · rw [cut_in z] at e; cases e
    · rw [cut_out z] at e; exact e, S.gh, fun _ _ _ n => n, fun c e => (S.row c e).2, .of fun b o e => (by
    by_cases z : b ∈ a :: fps fs
    · rw [cut_in z] at e; cases e
    · rw [cut_out z] at e; exact e), fun _ _ e => e⟩
  refine ⟨⟨S, by simp [L2.start, startP, hl], fun i p e => ?_, fun i j c x y e => absurd e own0, fun i j D d gs e => ⟨fun x ex => absurd ex own0, fun D2 d2 gs2 ej nij => ?_⟩⟩, gr, .inl rfl, fun c e => ?_, fun i c x e => absurd e own0, fun i D d gs e b z => ?_⟩
  · unfold startP at e
    unfold L2.start
    cases i with
    | zero =>
      simp at e
      subst e
      exact ⟨some (.ref a), by simp, rfl, O, hb⟩
    | succ i =>
      rw [List.cons_append, List.getElem?_cons_succ] at e
      rw [List.map_cons, List.cons_append, List.getElem?_cons_succ]
      by_cases hi : i < as.length
      · rw [List.getElem?_append_left hi] at e
        obtain ⟨v, h1, h2⟩ := A.get e
        refine ⟨some v, by rw [List.getElem?_append_left (by simpa [hl] using hi), List.getElem?_map, h1]; rfl, ?_⟩
        cases p with
        | un => trivial
        | d x => exact ⟨v, rfl, h2⟩
        | own x => exact h2.elim
        | row => obtain ⟨a, rfl, h2⟩ := h2; exact ⟨a, rfl, h2⟩
        | scr ns => obtain ⟨a, rfl, h2⟩ := h2; exact ⟨a, rfl, h2⟩
        | rng lo hi => exact h2.elim
        | ins C fs => obtain ⟨a, dx, vs, rfl, h2⟩ := h2; exact ⟨a, dx, vs, rfl, h2⟩
        | obj C a fs => exact h2.elim
        | fz p => exact fun G2 H2 g2 _ => h2 G2 H2 g2
      · rw [List.getElem?_append_right (by omega), List.getElem?_replicate] at e
        split at e
        · cases e
          refine ⟨none, ?_, trivial⟩
          rw [List.getElem?_append_right (by simp; omega), List.getElem?_replicate, if_pos (by simp at *; omega)]
        · cases e
  · obtain ⟨rfl, _⟩ := obj0 e
    obtain ⟨rfl, _⟩ := obj0 ej
    exact absurd rfl nij
  · obtain ⟨_, _, _, _, _, _, h, _⟩ := S.row c e
    exact ⟨_, (cut_out fun z => (hb c z).2 e).trans h⟩
  · obtain ⟨_, rfl, rfl, rfl⟩ := obj0 e
    exact cut_in z
section
variable {P : Program} {w : World} {K : Fg} {mg : Str → Option Value} {base : Heap}
theorem fd_okM {x qual : Str} {st : Stmt} {f : Addr} {fd : FuncData} {N ps : List Str} {k : Nat} {C : Addr} (M : MF) (Fu : Fun K x qual st f fd) (S : FnScope N ps (defScope st)) (len : ∀ fs as P, M fs as P → as.length + 1 = ps.length)
    (body : ∀ (cdv : Value) (A : Around) (outer : List Env) (s : Shared) (H : Hp) (E : XK), Room k (A.deeper (envOfC qual (defScope st) s.heap.objs.size f cdv)) →
      ∃ t, DSs (cxOf CX0 P w K mg base N qual (defScope st) f cdv A outer s H E).nox (defBody st) t ∧ ∀ a fs as (Q : List (Str × Fv) → Prop), M fs as Q → t { nx := fun ρ => ∃ fs', ρ[0]? = some (.obj C a fs') ∧ Q fs', rt := fun _ => False } (startP N (.obj C a fs :: as))) : FnOk P w K mg base CX0 (k + 1) f fd ps (liftM K C M) := by
  refine Fu.ok S (fun vs H Q E ⟨r, G, a, fs, us, as, P, e, _, _, _, A, p, _⟩ => by subst e; exact (by rw [List.length_cons, Paired.length A]; exact len fs as P p)) fun cdv A outer s H vs Q E hr ⟨r, G, a, fs, us, as, P, e, S1, O, hb, R, p, q⟩ => ?_
  subst e
  obtain ⟨t, ht, hp⟩ := body cdv A outer s H E hr
  refine ⟨liftS K t, ht, r, G, cutG H (a :: fps fs), r, G, _, _, env_startM S1 O hb R, hp a fs as P p, ⟨fun r' σ' ρ' G' H' ⟨fs', e', p'⟩ E' => ?_, fun _ _ _ _ _ z => z.elim, fun _ _ _ _ _ z => z.elim, fun v d G' H' p' => p'.elim⟩⟩
  obtain ⟨g1, g2, g3⟩ := E'.env.obAt e'
  have yo := E'.yo 0 C a fs' e'
  refine q fs' G' H' p' E'.gr.g (fun b o n z m h => E'.gr.h b o n ((cut_out z).trans h) m) (TbGo.cut O.there E'.gr.t) E'.gr.nt E'.gr.gh (fun b o h z n => E'.gr.y b o ((cut_out z).trans h) n) E'.gr.row g2 fun b z => ⟨?_, (g3 b z).1, fun e => ?_⟩
  · have := yo b z
    by_cases y : b ∈ a :: fps fs
    · exact .inl y
    · rw [cut_out y] at this; exact .inr this
  · obtain ⟨o, ho⟩ := E'.rh b e
    rw [yo b z] at ho; cases ho
end
section
variable {X : Cx} {pos p0 apos p : Pos} {C : Addr} {m : Str} {te : PT0} {e : Expr} {es : List Expr}
/-- o.m(..) as a statement, o one's own -/
def sMeth (i : Nat) (C : Addr) (m : Str) (M : MF) (ta : PTAs) : PTS := fun P ρ => ∃ a fs, ρ[i]? = some (.obj C a fs) ∧ (fs.map (·.1)).all (fun x => m != x) = true ∧ ta ρ fun as => M fs as fun fs' => P.nx (ρ.set i (.obj C a fs'))
theorem meth_end {K : Fg} {r0 r : Option Addr} {G0 H0 G H : Hp} {σ : L2.St} {ρ : List PV} {a : Addr} {fs : List (Str × Fv)} {i : Nat} {M : MF} {as : List PV} {us : List V} {P : PEnds} {Dn : Ends} {E0 : XK} (E : EnvS K r0 G0 H0 r G H σ ρ) (e : ρ[i]? = some (.obj C a fs)) (A : Args K r G us as)
    (p : M fs as fun fs' => P.nx (ρ.set i (.obj C a fs'))) (q : Post K r0 G0 H0 P Dn) : liftM K C M (.ref a :: us) H (fun _ H' => Dn.nx σ H') E0 := by
  obtain ⟨h1, O, hb⟩ := E.env.obAt e
  exact ⟨r, G, a, fs, us, as, _, rfl, E.env.st, O, hb, A, p, fun fs' G' H' p' g hk tg nt gh y row O' hn => q.nx _ _ _ _ _ p' (E.putG e g hk tg nt gh y row O' hn)⟩
theorem ds_meth (i : Nat) {x : Str} {k : Nat} {f : Addr} {fd : FuncData} {ps : List Str} {M : MF} {ta : PTAs} {pl : Sem Bool} (T : Cls X.K C) (mf : Meth X.K C m f) (Fk : FnOk X.prog X.w X.K X.mg X.base CX0 k f fd ps (liftM X.K C M)) (hr : Room k X.A) (hbd : Binds X.K fd ps []) (ha : DAs X (e :: es) ta)
    (hN : X.N[i]? = some x := by rfl) (hv : Vis X.env.scope x := by first | exact Or.inl rfl | exact Or.inr (Or.inl rfl) | exact Or.inr (Or.inr rfl)) (hd : (x == ("__debug__" : Str)) = false := by decide) (hcd : (x == ("__classdict__" : Str)) = false := by decide)
    (he : starEach (e :: es) X.env = (false, eval e X.env) :: starEach es X.env := by rfl) (hpl : (backTo p (starEach es X.env)).any (·.1) = false := by rfl)
    (hev : eval (.Call (.Attribute (.Name x p0) m apos) (e :: es) [] p) X.env = (do let ov ← eval (.Name x p0) X.env; standAt apos.atName; let __x ← holding [ov] (getMethod ov m pl); match __x with | (f, first) => callWith p f first (backTo p (starEach (e :: es) X.env)) (backToKw p (keywordEach [] X.env))) := by rfl)
    (hs : swapsWith (.Call (.Attribute (.Name x p0) m apos) (e :: es) [] p) none pos.line X.env = pure false := by rfl) :
    DS X (.Expr (.Call (.Attribute (.Name x p0) m apos) (e :: es) [] p) pos) (sMeth i C m M ta) :=
  PS.weak (ps_expr (pe_meth (pe_var hN hv hd hcd) T mf Fk hr hbd .nil pass0 ha he hpl hev) hs) fun Dn σ H ⟨r0, G0, H0, r, G, ρ, P, E, ⟨a, fs, e, nm, pa⟩, q⟩ => by
    obtain ⟨h1, ⟨⟨dx, vs, h2, h3⟩, nd⟩, hb⟩ := E.env.obAt e
    refine ⟨.ref a, h1, a, dx, vs, rfl, h2, lookup_none (by rw [h3.names]; exact nm), r, G, ρ, _, E.env, pa, fun us as G1 H1 p1 W R => ?_⟩
    show liftM X.K C M (V.ref a :: (us ++ [])) H1 _ E0
    rw [List.append_nil]
    exact meth_end (E.grow W) e R p1 q
theorem ds_meth0 (i : Nat) {x : Str} {k : Nat} {f : Addr} {fd : FuncData} {ps : List Str} {M : MF} {pl : Sem Bool} (T : Cls X.K C) (mf : Meth X.K C m f) (Fk : FnOk X.prog X.w X.K X.mg X.base CX0 k f fd ps (liftM X.K C M)) (hr : Room k X.A) (hbd : Binds X.K fd ps [])
    (hN : X.N[i]? = some x := by rfl) (hv : Vis X.env.scope x := by first | exact Or.inl rfl | exact Or.inr (Or.inl rfl) | exact Or.inr (Or.inr rfl)) (hd : (x == ("__debug__" : Str)) = false := by decide) (hcd : (x == ("__classdict__" : Str)) = false := by decide)
    (hev : eval (.Call (.Attribute (.Name x p0) m apos) [] [] p) X.env = (do let ov ← eval (.Name x p0) X.env; standAt apos.atName; let __x ← holding [ov] (getMethod ov m pl); match __x with | (f, first) => callWith p f first (backTo p (starEach [] X.env)) (backToKw p (keywordEach [] X.env))) := by rfl)
    (hs : swapsWith (.Call (.Attribute (.Name x p0) m apos) [] [] p) none pos.line X.env = pure false := by rfl) :
    DS X (.Expr (.Call (.Attribute (.Name x p0) m apos) [] [] p) pos) (sMeth i C m M vNil) :=
  PS.weak (ps_expr (pe_meth0 (pe_var hN hv hd hcd) T mf Fk hr hbd .nil pass0 hev) hs) fun Dn σ H ⟨r0, G0, H0, r, G, ρ, P, E, ⟨a, fs, e, nm, pa⟩, q⟩ => by
    obtain ⟨h1, ⟨⟨dx, vs, h2, h3⟩, nd⟩, hb⟩ := E.env.obAt e
    exact ⟨.ref a, h1, a, dx, vs, rfl, h2, lookup_none (by rw [h3.names]; exact nm), (show liftM X.K C M (V.ref a :: ([] ++ [])) H _ E0 from meth_end E e .nil pa q)⟩
/-- o.m(..), m only reads o, which is one's own -/
def dMethO (i : Nat) (C : Addr) (m : Str) (F : PF) (ta : PTA) : PT0 := fun ρ P => ∃ a fs, ρ[i]? = some (.obj C a fs) ∧ (fs.map (·.1)).all (fun x => m != x) = true ∧ ta ρ fun xs => F (.ins C (frzF fs) :: xs.map .d) fun d => flatB d = true ∧ P d
theorem de_methO (i : Nat) {x : Str} {k : Nat} {f : Addr} {fd : FuncData} {ps : List Str} {F : PF} {ta : PTA} {pl : Sem Bool} (T : Cls X.K C) (mf : Meth X.K C m f) (Fk : FnOk X.prog X.w X.K X.mg X.base CX0 k f fd ps (liftF X.K F)) (hr : Room k X.A) (hbd : Binds X.K fd ps []) (ha : DA X (e :: es) ta)
    (hN : X.N[i]? = some x := by rfl) (hv : Vis X.env.scope x := by first | exact Or.inl rfl | exact Or.inr (Or.inl rfl) | exact Or.inr (Or.inr rfl)) (hd : (x == ("__debug__" : Str)) = false := by decide) (hcd : (x == ("__classdict__" : Str)) = false := by decide)
    (he : starEach (e :: es) X.env = (false, eval e X.env) :: starEach es X.env := by rfl) (hpl : (backTo p (starEach es X.env)).any (·.1) = false := by rfl)
    (hev : eval (.Call (.Attribute (.Name x p0) m apos) (e :: es) [] p) X.env = (do let ov ← eval (.Name x p0) X.env; standAt apos.atName; let __x ← holding [ov] (getMethod ov m pl); match __x with | (f, first) => callWith p f first (backTo p (starEach (e :: es) X.env)) (backToKw p (keywordEach [] X.env))) := by rfl) :
    DE X (.Call (.Attribute (.Name x p0) m apos) (e :: es) [] p) (dMethO i C m F ta) :=
  PE.weak (pe_meth (pe_var hN hv hd hcd) T mf Fk hr hbd .nil pass0 ha he hpl hev) fun σ H Q ⟨r, G, ρ, P, E, ⟨a, fs, e, nm, pa⟩, q⟩ => by
    obtain ⟨h1, ⟨⟨dx, vs, h2, h3⟩, nd⟩, hb⟩ := E.obAt e
    refine ⟨.ref a, h1, a, dx, vs, rfl, h2, lookup_none (by rw [h3.names]; exact nm), r, G, ρ, _, E, pa, fun us xs G1 H1 p1 W R => ?_⟩
    show liftF X.K F (V.ref a :: (us ++ [])) H1 Q E0
    rw [List.append_nil]
    obtain ⟨g1, O, hb'⟩ := (E.grow W).obAt e
    exact pure_call (W.start E.st) O hb' R p1 fun v d G' H' p' W' R' => q v d G' H' p' (W.trans W') R'
theorem de_methO0 (i : Nat) {x : Str} {k : Nat} {f : Addr} {fd : FuncData} {ps : List Str} {F : PF} {pl : Sem Bool} (T : Cls X.K C) (mf : Meth X.K C m f) (Fk : FnOk X.prog X.w X.K X.mg X.base CX0 k f fd ps (liftF X.K F)) (hr : Room k X.A) (hbd : Binds X.K fd ps [])
    (hN : X.N[i]? = some x := by rfl) (hv : Vis X.env.scope x := by first | exact Or.inl rfl | exact Or.inr (Or.inl rfl) | exact Or.inr (Or.inr rfl)) (hd : (x == ("__debug__" : Str)) = false := by decide) (hcd : (x == ("__classdict__" : Str)) = false := by decide)
    (hev : eval (.Call (.Attribute (.Name x p0) m apos) [] [] p) X.env = (do let ov ← eval (.Name x p0) X.env; standAt apos.atName; let __x ← holding [ov] (getMethod ov m pl); match __x with | (f, first) => callWith p f first (backTo p (starEach [] X.env)) (backToKw p (keywordEach [] X.env))) := by rfl) :
    DE X (.Call (.Attribute (.Name x p0) m apos) [] [] p) (dMethO i C m F dNil) :=
  PE.weak (pe_meth0 (pe_var hN hv hd hcd) T mf Fk hr hbd .nil pass0 hev) fun σ H Q ⟨r, G, ρ, P, E, ⟨a, fs, e, nm, pa⟩, q⟩ => by
    obtain ⟨h1, O, hb⟩ := E.obAt e
    obtain ⟨⟨dx, vs, h2, h3⟩, nd⟩ := id O
    exact ⟨.ref a, h1, a, dx, vs, rfl, h2, lookup_none (by rw [h3.names]; exact nm), (show liftF X.K F (V.ref a :: ([] ++ [])) H Q E0 from pure_call E.st O hb .nil pa fun v d G' H' p' W' R' => q v d G' H' p' W' R')⟩
/-- C(..): a new one -/
abbrev PTM := List PV → (List (Str × Fv) → Prop) → Prop
def liftN (K : Fg) (C : Addr) (t : PTM) : TE := fun σ H Q => ∃ (r : Option Addr) (G : Hp) (ρ : List PV) (P : List (Str × Fv) → Prop), EnvR K r G H σ ρ ∧ t ρ P ∧ ∀ a fs G' H', P fs → Grow K r G H G' H' → ObR K G' H' C a fs → (∀ b ∈ a :: fps fs, H b = none ∧ G' b = none ∧ r ≠ some b) → Q (.ref a) H'
def DN (X : Cx) (C : Addr) (e : Expr) (t : PTM) : Prop := PE X e (liftN X.K C t)
def nMake (M : MF) (ta : PTAs) : PTM := fun ρ P => ta ρ fun as => M [] as P
theorem dn_make {x : Str} {k : Nat} {f : Addr} {fd : FuncData} {ps : List Str} {M : MF} {ta : PTAs} (mk : Mk X.K C f) (Fk : FnOk X.prog X.w X.K X.mg X.base CX0 k f fd ps (liftM X.K C M)) (hr : Room (k + 1) X.A) (hm : X.mg x = some (.ref C)) (hbd : Binds X.K fd ps []) (ha : DAs X (e :: es) ta)
    (hg : Gl X x := by rfl) (hdb : (x == ("__debug__" : Str)) = false := by decide) (he : starEach (e :: es) X.env = (false, eval e X.env) :: starEach es X.env := by rfl) (hpl : (backTo pos (starEach es X.env)).any (·.1) = false := by rfl) :
    DN X C (.Call (.Name x p) (e :: es) [] pos) (nMake M ta) :=
  PE.weak (pe_make mk Fk hr hg hm hbd .nil pass0 ha hdb he hpl) fun σ H Q ⟨r, G, ρ, P, E, pa, q⟩ => ⟨r, G, ρ, _, E, pa, fun us as G1 H1 p1 W R a dx ha hdx nex => by
    have S1 := W.start E.st
    have up : ∀ b o, H1 b = some o → (upd (upd H1 dx (.own a)) a (.ins C dx [])) b = some o := fun b o h => by rw [upd_ne (ne_of_none h ha), upd_ne (ne_of_none h hdx)]; exact h
    have S2 : Start X.K r G1 (upd (upd H1 dx (.own a)) a (.ins C dx [])) := ⟨fun b o g => up b o (S1.gh _ _ g), fun c ec => by
      obtain ⟨h0, h⟩ := S1.row c ec
      obtain ⟨_, _, _, _, _, h1, _⟩ := id h
      exact ⟨h0, h.at (Same.refl _) ((up _ _ h1).trans h1.symm)⟩, S1.nt⟩
    have ga : G1 a = none := S1.gh.free ha
    show liftM X.K C M (V.ref a :: (us ++ [])) _ _ E0
    rw [List.append_nil]
    refine ⟨r, G1, a, [], us, as, P, rfl, S2, ⟨⟨dx, [], upd_same, .nil⟩, by simp [fps]⟩, fun b hb => ?_, R, p1, fun fs' G' H' p' g hk tg nt gh y row O' hn => ⟨rfl, ?_⟩⟩
    · have : b = a := by simpa [fps] using hb
      subst this
      exact ⟨ga, S1.rowNe ha⟩
    · have na : ∀ b o, H1 b = some o → b ∉ a :: fps [] := fun b o h z => by
        have : b = a := by simpa [fps] using z
        subst this
        rw [ha] at h; cases h
      refine q a fs' G' H' p' (W.trans ⟨g, fun b o n m h => hk b o n (na b o h) m (up b o h), gh, fun b o h n => y b o (up b o h) (na b o h) n, row, (TbGo.of up).trans tg, nt⟩) O' fun b hb => ?_
      obtain ⟨z1, z2, z3⟩ := hn b hb
      refine ⟨?_, z2, z3⟩
      have h1 : H1 b = none := by
        rcases z1 with z | z
        · have : b = a := by simpa [fps] using z
          subst this
          exact ha
        · cases q : H1 b with
          | none => rfl
          | some u => rw [up b u q] at z; cases z
      cases q : H b with
      | none => rfl
      | some u =>
        obtain ⟨o', h'⟩ := W.there q
        rw [h1] at h'; cases h'⟩
/-- C(..).m(..), m only reads -/
def dMethN (m : Str) (C : Addr) (tn : PTM) (F : PF) (ta : PTA) : PT0 := fun ρ P => tn ρ fun fs => (fs.map (·.1)).all (fun x => m != x) = true ∧ ta ρ fun xs => F (.ins C (frzF fs) :: xs.map .d) fun d => flatB d = true ∧ P d
theorem de_methN {o : Expr} {tn : PTM} {k : Nat} {f : Addr} {fd : FuncData} {ps : List Str} {F : PF} {ta : PTA} {pl : Sem Bool} (T : Cls X.K C) (mf : Meth X.K C m f) (Fk : FnOk X.prog X.w X.K X.mg X.base CX0 k f fd ps (liftF X.K F)) (hr : Room k X.A) (hbd : Binds X.K fd ps []) (ho : DN X C o tn) (ha : DA X (e :: es) ta)
    (he : starEach (e :: es) X.env = (false, eval e X.env) :: starEach es X.env := by rfl) (hpl : (backTo p (starEach es X.env)).any (·.1) = false := by rfl)
    (hev : eval (.Call (.Attribute o m apos) (e :: es) [] p) X.env = (do let ov ← eval o X.env; standAt apos.atName; let __x ← holding [ov] (getMethod ov m pl); match __x with | (f, first) => callWith p f first (backTo p (starEach (e :: es) X.env)) (backToKw p (keywordEach [] X.env))) := by rfl) :
    DE X (.Call (.Attribute o m apos) (e :: es) [] p) (dMethN m C tn F ta) :=
  PE.weak (pe_meth ho T mf Fk hr hbd .nil pass0 ha he hpl hev) fun σ H Q ⟨r, G, ρ, P, E, pn, q⟩ => ⟨r, G, ρ, _, E, pn, fun a fs G1 H1 ⟨nm, p1⟩ W O hn => by
    obtain ⟨⟨dx, vs, h2, h3⟩, nd⟩ := id O
    refine ⟨a, dx, vs, rfl, h2, lookup_none (by rw [h3.names]; exact nm), r, G1, ρ, _, E.grow W, p1, fun us xs G2 H2 p2 W2 R => ?_⟩
    show liftF X.K F (V.ref a :: (us ++ [])) H2 Q E0
    rw [List.append_nil]
    have S1 := W.start E.st
    have O2 : ObR X.K G2 H2 C a fs := O.at W2.g fun b hb => by
      obtain ⟨u, hu, no⟩ := O.there b hb
      exact (W2.h b u (hn b hb).2.2 hu no.1).trans hu.symm
    refine pure_call (W2.start S1) O2 (fun b hb => ?_) R p2 fun v d G' H' p' W' R' => q v d G' H' p' ((W.trans W2).trans W') R'
    obtain ⟨u, hu, _⟩ := O.there b hb
    exact ⟨W2.y b u hu (hn b hb).2.1, (hn b hb).2.2⟩⟩
/-- x, y = C(..), e: names that are cells -/
def sMakeP (i j : Nat) (C : Addr) (tn : PTM) (te : PT0) : PTS := fun P ρ => i < ρ.length ∧ i ≠ j ∧ tn ρ fun fs => te ρ fun y => ∀ a : Addr, P.nx ((ρ.set i (.obj C a fs)).set j (.d y))
theorem ds_makeP (i j : Nat) {x y : Str} {o : Expr} {tn : PTM} {px py pt pt2 : Pos} {kt k2} (hc : X.calm = true) (hN : X.N.Nodup) (ho : DN X C o tn) (he : DE X e te) (hi : X.N[i]? = some x := by rfl) (hj : X.N[j]? = some y := by rfl)
    (hx : Loc X.env.scope x := by first | exact Or.inl rfl | exact Or.inr rfl) (hy : Loc X.env.scope y := by first | exact Or.inl rfl | exact Or.inr rfl)
    (fx : X.fn x = true ∨ X.env.scope.names.lookup x = some .local := by first | exact .inl rfl | exact .inr rfl) (fy : X.fn y = true ∨ X.env.scope.names.lookup y = some .local := by first | exact .inl rfl | exact .inr rfl)
    (hw : swappedStores [.Tuple [.Name x px, .Name y py] kt pt] (.Tuple [o, e] k2 pt2) X.env = pure none := by rfl)
    (hs : swapsWithSole [.Tuple [.Name x px, .Name y py] kt pt] (.Tuple [o, e] k2 pt2) pos.line X.env = pure false := by rfl)
    (h0 : (assignEach [.Tuple [.Name x px, .Name y py] kt pt] X.env).map (·.2) = [assign (.Tuple [.Name x px, .Name y py] kt pt) X.env] := by rfl)
    (h1 : starEach [o, e] X.env = (false, eval o X.env) :: starEach [e] X.env := by rfl) (h2 : starEach [e] X.env = (false, eval e X.env) :: starEach [] X.env := by rfl)
    (a1 : (assignEach [.Name x px, .Name y py] X.env).map (·.2) = assign (.Name x px) X.env :: (assignEach [.Name y py] X.env).map (·.2) := by rfl) (a2 : (assignEach [.Name y py] X.env).map (·.2) = assign (.Name y py) X.env :: (assignEach [] X.env).map (·.2) := by rfl)
    (a3 : (assignEach [.Name x px, .Name y py] X.env).length = 2 := by rfl) (a4 : (assignEach [.Name x px, .Name y py] X.env).findIdx? (·.1) = none := by rfl) :
    DS X (.Assign [.Tuple [.Name x px, .Name y py] kt pt] (.Tuple [o, e] k2 pt2) pos) (sMakeP i j C tn te) :=
  PS.weak (ps_asg (pe_tup (pa_cons ho (pa_cons he pa_nil h2) h1)) (pg_tup hc (pgs_cons (pg_name hN hi hx fx) (pgs_cons (pg_name hN hj hy fy) pgs_nil a2) a1) a3 a4) hs hw h0) fun Dn σ H ⟨r0, G0, H0, r, G, ρ, P, E, ⟨li, nij, p⟩, q⟩ =>
    ⟨r, G, ρ, _, E.env, p, fun a fs G1 H1 p1 W O hn => ⟨r, G1, ρ, _, E.env.grow W, p1, fun v d G2 H2 p2 W2 R => ⟨by show 2 ≤ sizeLine; decide, fun c hc => ⟨c, _, rfl, .inl (.inl upd_same), rfl, _, _, rfl, _, _, rfl, rfl, by
      have S2 : Start X.K r G2 H2 := W2.start (W.start E.env.st)
      have W3 := S2.lay (o := .tup [.ref a, v]) hc
      have O3 : ObR X.K (upd G2 c (.tup [.ref a, v])) (upd H2 c (.tup [.ref a, v])) C a fs := O.at (W2.g.trans W3.g) fun b hb => by
        obtain ⟨u, hu, no⟩ := O.there b hb
        have h := W2.h b u (hn b hb).2.2 hu no.1
        exact (upd_ne (ne_of_none h hc)).trans (h.trans hu.symm)
      have E1 := E.takeO (i := i) ((W.trans W2).trans W3) O3 (fun b hb => by
        obtain ⟨u, hu, no⟩ := O.there b hb
        have h := W2.h b u (hn b hb).2.2 hu no.1
        exact ⟨(hn b hb).1, by rw [upd_ne (ne_of_none h hc)]; exact W2.y b u hu (hn b hb).2.1, (hn b hb).2.2⟩) li
      exact q.nx _ _ _ _ _ (p2 a) (E1.setP (i := j) (p := .d d) ⟨_, rfl, R.mono W3.g⟩ (fun _ z => nomatch z))⟩⟩⟩⟩
end
end PD
namespace PD
open PySem PySem.Spec PyProof.Rows L2
section
variable {X : Cx}
def fNotInI : F2 := fun x y P => ∃ (n : Int) (ns : List Int), x = .int n ∧ (y = .tuple (ns.map .int) ∨ y = .list (ns.map .int)) ∧ P (.bool (!decide (n ∈ ns)))
theorem do_notInI : DO X (compareOp .NotIn) fNotInI := by
  intro pins s σ H x y v u Q I rx ry h
  obtain ⟨r, G, d, e, P, S, hd, he, ⟨n, ns, rfl, hy, p⟩, q⟩ := h
  cases hd
  rcases hy with rfl | rfl
  · cases he with
    | tup e1 r1 =>
      rw [ints_eq (dInts_map ns)] at r1
      have e2 := r1.ints
      subst e2
      exact op_notIn_seq pins s σ H _ _ v u Q I rx ry ⟨_, _, rfl, .inr (same_seqP S.gh e1), rfl, flat_ints ns, by
        rw [if_pos (by decide), inV_ints]
        exact q _ _ G H p S.grow (.bl _)⟩
  · cases he with
    | lst e1 r1 =>
      rw [ints_eq (dInts_map ns)] at r1
      have e2 := r1.ints
      subst e2
      exact op_notIn_seq pins s σ H _ _ v u Q I rx ry ⟨_, _, rfl, .inl (SqL.of (S.gh _ _ e1)), rfl, flat_ints ns, by
        rw [if_pos (by decide), inV_ints]
        exact q _ _ G H p S.grow (.bl _)⟩
/-- a sign in a text -/
def fInX : F2 := fun x y P => ∃ (c : Nat) (z : Str), x = .str ⟨#[c]⟩ ∧ y = .str z ∧ P (.bool (decide (c ∈ z.cps.toList)))
def fNotInX : F2 := fun x y P => ∃ (c : Nat) (z : Str), x = .str ⟨#[c]⟩ ∧ y = .str z ∧ P (.bool (!decide (c ∈ z.cps.toList)))
theorem do_inX : DO X (compareOp .In) fInX := by
  intro pins s σ H x y v u Q I rx ry h
  obtain ⟨r, G, d, e, P, S, hd, he, ⟨c, z, rfl, rfl, p⟩, q⟩ := h
  cases hd
  cases he
  exact op_in_sign pins s σ H _ _ v u Q I rx ry ⟨c, z, rfl, rfl, q _ _ G H p S.grow (.bl _)⟩
theorem do_notInX : DO X (compareOp .NotIn) fNotInX := by
  intro pins s σ H x y v u Q I rx ry h
  obtain ⟨r, G, d, e, P, S, hd, he, ⟨c, z, rfl, rfl, p⟩, q⟩ := h
  cases hd
  cases he
  exact op_notIn_sign pins s σ H _ _ v u Q I rx ry ⟨c, z, rfl, rfl, q _ _ G H p S.grow (.bl _)⟩
end
/-- facts of a method -/
structure Dm (K : Fg) (C : Addr) (m qual : Str) (st : Stmt) (ps : List Str) (f : Addr) (fd : FuncData) : Prop where
  fn : Fun K m qual st f fd
  me : Meth K C m f
  bd : Binds K fd ps []
structure Dn (K : Fg) (C : Addr) (m qual : Str) (st : Stmt) (ps : List Str) (f : Addr) (fd : FuncData) : Prop where
  fn : Fun K m qual st f fd
  mks : Mk K C f
  bd : Binds K fd ps []
end PD
/-! PDx: dicts whose keys are tuples: their pairs walked. -/
namespace PD
open PySem PySem.Spec PyProof.Rows L2

/-- what a known dict with tuple keys holds, entry by entry -/
theorem frz_pairs {X : Cx} {pins : List (Addr × Obj)} {σ : L2.St} {H : Hp} {s : Shared} {d : Addr} {o : Obj} {kvs : List (List Key × V)} (I : Inv X pins σ H s) (hf : H d = some (.frz o (.dT kvs))) :
    (d == sysModules) = false ∧ s.heap.get? d = some o ∧ o.ExactDict ∧ ∃ (es : Array DictEntry) (ep : Nat), o.data = .dict es ep ∧ es.size = kvs.length ∧
      ∀ (i : Nat) (k : List Key) (v : V), kvs[i]? = some (k, v) → ∃ (en : DictEntry) (q : Addr), es[i]? = some en ∧ en.key = .ref q ∧ H q = some (.tup (k.map kV)) ∧ RelV v en.val := by
  obtain ⟨g0, z, gs, xs, pr, o', es, ep, g1, g2, g3, g4, _⟩ := I.hok d _ hf
  rw [g0] at g1
  cases g1
  refine ⟨gs, g0, g2, es, ep, g3, ?_, fun i k v e => ?_⟩
  · have a1 : es.size = xs.length := size_of_entries g4
    have a2 : kvs.length = xs.length := Paired.length pr
    omega
  · obtain ⟨b, hb, b1, b2, b3⟩ := paired_get pr e
    have y := entry_at g4 i
    rw [hb] at y
    exact ⟨_, b.2.1, y, rfl, b2, b3⟩
def Itq (d : Addr) (o : Obj) (kvs : List (List Key × V)) : It :=
  ⟨fun i H => H d = some (.frz o (.dT kvs)) ∧ i < kvs.length, fun i H x H' => ∃ (T q : Addr) (k : List Key) (v : V), kvs[i]? = some (k, v) ∧ x = .ref T ∧ H T = none ∧ H q = some (.tup (k.map kV)) ∧ H' = upd H T (.tup [.ref q, v]), fun i H => H d = some (.frz o (.dT kvs)) ∧ kvs.length ≤ i⟩
theorem raw_of {h : Heap} {d : Addr} {o : Obj} {es : Array DictEntry} {ep : Nat} (h1 : h.get? d = some o) (h2 : o.ExactDict) (h3 : o.data = .dict es ep) : DT.Raw h d es ep := ⟨o, h1, h2, h3⟩
theorem turn_pairs {P : Program} {w : World} {K : Fg} {d : Addr} {o : Obj} {es : Array DictEntry} {ep : Nat} {kvs : List (List Key × V)} {elts : List Expr} {kk : Nat} {tpos : Pos} (it : Addr) (hod : o.data = .dict es ep) :
    Turn P w K (.Tuple elts kk tpos) (Itq d o kvs) [it] it (fun i h => ∃ ok ov, IsItemIter h it d i kvs.length ep ok ov) where
  mem := List.mem_singleton_self _
  obj := fun i h ⟨ok, ov, e⟩ b hb => by
    rw [List.mem_singleton.mp hb]
    exact ⟨_, e, fun v z => nomatch z⟩
  keep := fun i h h' ⟨ok, ov, e⟩ k => ⟨ok, ov, k it (List.mem_singleton_self _) _ e⟩
  item := by
    intro X hP hw hK hc i pins s σ H E I hf ⟨ok, ov, st⟩ ⟨hd, hi⟩
    subst hP hw hK
    obtain ⟨gs, g0, gx, es', ep', g3, gz, gp⟩ := frz_pairs I hd
    obtain ⟨rfl, rfl⟩ := dict_ep hod g3
    have hkv : kvs[i]? = some (kvs[i].1, kvs[i].2) := by rw [List.getElem?_eq_getElem hi]
    obtain ⟨en, q, en1, en2, en3, en4⟩ := gp i _ _ hkv
    have hi2 : i < es'.size := by rw [gz]; exact hi
    rw [← gz] at st
    have ee : es'[i] = en := by
      rw [Array.getElem?_eq_getElem hi2] at en1
      exact Option.some.inj en1
    have younger : it < s.heap.objs.size := Heap.lt_size st
    refine DT.nextI st (raw_of g0 gx g3) hi2 fun h1 m1 m2 m3 m4 => ?_
    rw [ee, en2] at m1 m2
    refine ⟨_, rfl, wpAny_letOwnedTupleGo_items (s := { s with heap := h1 }) m1 fun h2 m5 m6 => ?_⟩
    have there : h2.get? s.heap.objs.size = some { cls := .type "tuple", data := .seq #[.ref q, en.val] } := (m6.2 _ (Nat.ne_of_gt younger)).trans m2
    have fine : ObjOk X.prog X.w (upd H s.heap.objs.size (.tup [.ref q, kvs[i].2])) h2 s.heap.objs.size (.tup [.ref q, kvs[i].2]) :=
      ⟨by show 2 ≤ sizeLine; decide, [.ref q, en.val], .cons rfl (.cons en4 .nil), ⟨_, there, rfl, _, rfl⟩⟩
    have I2 : Inv X pins σ (upd H s.heap.objs.size (.tup [.ref q, kvs[i].2])) { s with heap := h2 } :=
      I.turnedNew (t' := s.toks) (ch := [it]) (fun b ob hb e => (m6.2 b fun z => hb (List.mem_singleton.mpr z)).trans (m4 b ob (fun z => hb (List.mem_singleton.mpr z)) e)) hf (Nat.le_refl _) fine
    refine ⟨.ref s.heap.objs.size, _, I2, rfl, ⟨_, q, _, _, hkv, rfl, I.hok.fresh (Nat.le_refl _), en3, rfl⟩, ⟨.ref q, en.val, by rw [← gz]; exact m5⟩, fun b hb => ?_⟩
    rw [List.mem_singleton.mp hb, upd_ne (Nat.ne_of_lt younger)]
    exact (hf it (List.mem_singleton_self _)).1
  done := by
    intro X hP hw hK hc i pins s σ H E I hf ⟨ok, ov, st⟩ ⟨hd, hi⟩
    subst hP hw hK
    obtain ⟨f0, f1, f2, f3, f4, f5⟩ := hf it (List.mem_singleton_self _)
    obtain ⟨gs, g0, gx, es', ep', g3, gz, gp⟩ := frz_pairs I hd
    obtain ⟨rfl, rfl⟩ := dict_ep hod g3
    rw [← gz] at st
    exact DT.endI (I.ok.hd hc) st (raw_of g0 gx g3) (by rw [gz]; exact hi) fun h1 m1 => ⟨rfl, I.turned (t' := s.toks) (fun b ob hb e => m1 b ob hb e) f0 f1 f3 f4 f5⟩
  self := fun A i s Q E ⟨ok, ov, st⟩ h => PySem.W.kcp_self st h
def iPairs (td : TE) : TI := fun σ H R => td σ H fun x H1 => ∃ d o kvs, x = .ref d ∧ H1 d = some (.frz o (.dT kvs)) ∧ R (Itq d o kvs) H1
theorem pi_pairs {X : Cx} {e : Expr} {td : TE} {apos cpos : Pos} {elts : List Expr} {kk : Nat} {tpos : Pos} (he : PE X e td) (hbase : attributeBase e "items" X.env (eval e X.env) = eval e X.env := by rfl) (hline : (apos.endLine == cpos.line) = true := by rfl) :
    PI X (.Tuple elts kk tpos) (.Call (.Attribute e "items" apos) [] [] cpos) (iPairs td) := by
  refine ⟨fun pins s σ H R I h => ?_⟩
  refine wpAny_Call_method (T := "dict") (id := "dict.items") hbase rfl hline F.plainAttrs_dict F.slot_dict_items F.type_dict_items (thn (he.run pins s σ H _ I h) fun u s1 ⟨x, H1, I1, rx, d, o, kvs, ex, hd, q⟩ => ?_)
  subst ex
  obtain rfl : u = Value.ref d := rx
  obtain ⟨gs, g0, gx, es, ep, g3, gz, gp⟩ := frz_pairs I1 hd
  have raw := raw_of g0 gx g3
  refine ⟨raw.typeIs, ?_, ?_⟩
  · intro a e
    cases e
    exact ⟨o, g0, gx.2.1⟩
  · have J : Inv X pins σ H1 { s1 with heap := s1.heap.push { cls := .type "dict_items", data := .fields #[.ref d] } } := I1.kept (t' := s1.toks) fun b ob z => Heap.get?_push_of_some _ z
    have last : wpAny (model X.prog X.w) X.A (pyIter (.ref s1.heap.objs.size)) (PIE X pins σ (.Tuple elts kk tpos) R) X.xe { s1 with heap := s1.heap.push { cls := .type "dict_items", data := .fields #[.ref d] } } := by
      refine DT.iterI (d := d) ⟨_, Heap.get?_push_size _ rfl, rfl, rfl⟩ (raw.push _) (pi_one (tk := s1.toks) J _ (turn_pairs _ g3) ⟨.none, .none, ?_⟩ q)
      rw [← gz]
      exact Heap.get?_push_size _ rfl
    show wpAny _ _ (callWith cpos (.builtin "dict.items") [.ref d] [] []) _ X.xe s1
    exact method_meetsIn F.slot_dict_items F.entry_dict_items rfl (PySem.evalArgs_none ⟨rfl, raw.typeIs, F.args_dict_items_1 _, _, DT.meetsItems (prog := X.prog) (w := X.w) gs, raw, last⟩)
end PD
/-! PDy: dicts by pairs of ints, as data. -/
namespace PD
open PySem PySem.Spec PyProof.Rows L2

abbrev Pk := (Int × Int) × Int
def pk (k : Int × Int) : List Key := [.inl k.1, .inl k.2]
def pairI (k : Int × Int) : Dt := .tuple [.int k.1, .int k.2]
def ktL (l : List Pk) : List (List Key × Dt) := l.map fun e => (pk e.1, .int e.2)
def kt (l : List Pk) : Dt := .dict (markE :: (ktL l).map entD)
def vtL (l : List Pk) : List (List Key × V) := l.map fun e => (pk e.1, V.int e.2)
def getP (l : List Pk) (k : Int × Int) : Option Int := (l.find? fun e => decide (e.1 = k)).map (·.2)
def putP (l : List Pk) (k : Int × Int) (c : Int) : List Pk := if (l.any fun e => decide (e.1 = k)) = true then l.map (fun e => if e.1 = k then (e.1, c) else e) else l ++ [(k, c)]
theorem pk_inj {a b : Int × Int} (h : pk a = pk b) : a = b := by
  unfold pk at h
  have h1 := (List.cons.inj h).1
  have h2 := (List.cons.inj (List.cons.inj h).2).1
  exact Prod.ext (Sum.inl.inj h1) (Sum.inl.inj h2)
theorem pk_eq {a b : Int × Int} : (pk a = pk b) = (a = b) := propext ⟨pk_inj, fun h => by rw [h]⟩
theorem pk_kV (k : Int × Int) : (pk k).map kV = [.int k.1, .int k.2] := rfl
theorem keysD_inj : ∀ {a b : List Key}, a.map keyD = b.map keyD → a = b
  | [], [], _ => rfl
  | [], _ :: _, h => by simp at h
  | _ :: _, [], h => by simp at h
  | x :: a, y :: b, h => by
    rw [List.map_cons, List.map_cons] at h
    rw [keyD_inj (List.cons.inj h).1, keysD_inj (List.cons.inj h).2]
theorem entD_inj : ∀ {l m : List (List Key × Dt)}, l.map entD = m.map entD → l = m
  | [], [], _ => rfl
  | [], _ :: _, h => by simp at h
  | _ :: _, [], h => by simp at h
  | x :: a, y :: b, h => by
    rw [List.map_cons, List.map_cons] at h
    have h1 := (List.cons.inj h).1
    have h2 := Prod.mk.inj h1
    have h3 : x = y := Prod.ext (keysD_inj (PyData.tuple.inj h2.1)) h2.2
    rw [h3, entD_inj (List.cons.inj h).2]
theorem repT_kt {K : Fg} {G : Hp} : ∀ {kvs : List (List Key × V)} {l : List Pk}, RepT K G kvs (ktL l) → kvs = vtL l
  | _, [], h => by cases h; rfl
  | _, e :: l, h => by
    unfold ktL at h
    rw [List.map_cons] at h
    cases h with
    | cons a b =>
      cases a
      rw [repT_kt (l := l) b]
      rfl
theorem kt_rep {K : Fg} {G : Hp} : ∀ l : List Pk, RepT K G (vtL l) (ktL l)
  | [] => .nil
  | e :: l => .cons (.int _) (kt_rep l)
theorem mark_not {K : Fg} {G : Hp} {kvs : List (Key × V)} {x : List (Dt × Dt)} (h : RepK K G kvs (markE :: x)) : False := by
  generalize e : markE :: x = y at h
  cases h with
  | nil => cases e
  | cons a b =>
    have h1 := (Prod.mk.inj (List.cons.inj e).1).1
    rename_i k _ _ _ _
    cases k <;> cases h1
theorem rep_kt {K : Fg} {G : Hp} {v : V} {l : List Pk} (h : Rep K G v (kt l)) : ∃ a o, v = .ref a ∧ G a = some (.frz o (.dT (vtL l))) := by
  unfold kt at h
  generalize e : markE :: (ktL l).map entD = y at h
  cases h with
  | dic h1 h2 => subst e; exact (mark_not h2).elim
  | dicT h1 h2 =>
    have h3 := entD_inj (List.cons.inj e).2
    subst h3
    rw [repT_kt h2] at h1
    exact ⟨_, _, rfl, h1⟩
theorem own_kt {K : Fg} {r : Option Addr} {G H : Hp} {σ : L2.St} {ρ : List PV} (E : EnvR K r G H σ ρ) {i : Nat} {l : List Pk} (e : ρ[i]? = some (.own (kt l))) : ∃ a, σ[i]? = some (some (.ref a)) ∧ H a = some (.dT (vtL l)) := by
  obtain ⟨a, h1, _, _, h2⟩ := E.getO e
  unfold kt at h2
  generalize e2 : markE :: (ktL l).map entD = y at h2
  cases h2 with
  | dic h3 h4 => subst e2; exact (mark_not h4).elim
  | dicT h3 h4 =>
    have h5 := entD_inj (List.cons.inj e2).2
    subst h5
    rw [repT_kt h4] at h3
    exact ⟨a, h1, h3⟩
theorem valV_kt (k : Int × Int) : ∀ l : List Pk, valV (vtL l) (pk k) = (getP l k).map V.int
  | [] => rfl
  | e :: l => by
    have ih := valV_kt k l
    unfold valV getP at ih ⊢
    show ((((pk e.1, V.int e.2) :: vtL l).find? fun kv => decide (kv.1 = pk k)).map (·.2)) = (((e :: l).find? fun e => decide (e.1 = k)).map (·.2)).map V.int
    rw [List.find?_cons, List.find?_cons]
    by_cases h : e.1 = k
    · rw [decide_eq_true h, decide_eq_true (show pk e.1 = pk k by rw [h])]
      rfl
    · rw [decide_eq_false h, decide_eq_false (show ¬ pk e.1 = pk k from fun z => h (pk_inj z))]
      exact ih
theorem any_kt (k : Int × Int) : ∀ l : List Pk, (vtL l).any (fun kv => decide (kv.1 = pk k)) = l.any fun e => decide (e.1 = k)
  | [] => rfl
  | e :: l => by
    have ih := any_kt k l
    show (decide (pk e.1 = pk k) || (vtL l).any fun kv => decide (kv.1 = pk k)) = (decide (e.1 = k) || l.any fun e => decide (e.1 = k))
    rw [ih]
    congr 1
    simp [pk_eq]
theorem putK_kt (l : List Pk) (k : Int × Int) (c : Int) : putK (vtL l) (pk k) (V.int c) = vtL (putP l k c) := by
  unfold putK putP
  rw [any_kt]
  split
  · unfold vtL
    rw [List.map_map, List.map_map]
    refine List.map_congr_left fun e _ => ?_
    show (if pk e.1 = pk k then (pk e.1, V.int c) else (pk e.1, V.int e.2)) = (pk (if e.1 = k then (e.1, c) else e).1, V.int (if e.1 = k then (e.1, c) else e).2)
    by_cases h : e.1 = k
    · rw [if_pos h, if_pos (by rw [h])]
    · rw [if_neg h, if_neg fun z => h (pk_inj z)]
  · unfold vtL
    rw [List.map_append]
    rfl
theorem rep_pair {K : Fg} {G : Hp} {v : V} {k : Int × Int} (h : Rep K G v (pairI k)) : ∃ b, v = .ref b ∧ G b = some (.tup ((pk k).map kV)) := by
  unfold pairI at h
  cases h with
  | tup e r =>
    cases r with
    | cons a t =>
      cases t with
      | cons b u =>
        cases u; cases a; cases b
        exact ⟨_, rfl, e⟩
section
variable {X : Cx} {e tg iter c a b k v : Expr} {te ta tb ty tv tk td tx : PT0} {pos pos' p p0 p1 p2 : Pos} {es : List Expr}
/-- x = {}, by pairs -/
def sOwnT (i : Nat) : PTS := fun P ρ => i < ρ.length ∧ P.nx (ρ.set i (.own (kt [])))
theorem ds_ownT (i : Nat) {x : Str} {p2 : Pos} (hN : X.N.Nodup) (hi : X.N[i]? = some x := by rfl) (hx : Loc X.env.scope x := by first | exact Or.inl rfl | exact Or.inr rfl) (hs : swapsWith (.Dict [] [] p2) (some (.Name x pos')) pos.line X.env = pure false := by rfl)
    (hf : X.fn x = true ∨ X.env.scope.names.lookup x = some .local := by first | exact .inl rfl | exact .inr rfl) : DS X (.Assign [.Name x pos'] (.Dict [] [] p2) pos) (sOwnT i) :=
  PS.weak (ps_set hN hi hx pe_dnewT hs hf) fun Dn σ H ⟨r0, G0, H0, r, G, ρ, P, E, ⟨hi, p⟩, q⟩ => fun c hc => q.nx _ _ _ _ _ p (E.take hc (.dicT (l := ktL []) upd_same (kt_rep [])) hi)
/-- x[a, b] = e -/
def sPutT (i : Nat) (tk tv : PT0) : PTS := fun P ρ => tv ρ fun y => ∃ l, ρ[i]? = some (.own (kt l)) ∧ tk ρ fun x => ∃ k n, x = pairI k ∧ y = .int n ∧ l.length < sizeLine ∧ P.nx (ρ.set i (.own (kt (putP l k n))))
theorem ds_putT (i : Nat) {x : Str} (hu : X.A.units + 1 < cLine) (hk : DE X k tk) (hv : DE X v tv) (hi : X.N[i]? = some x := by rfl) (hvs : Vis X.env.scope x := by first | exact Or.inl rfl | exact Or.inr (Or.inl rfl) | exact Or.inr (Or.inr rfl)) (hd : (x == ("__debug__" : Str)) = false := by decide)
    (hcd : (x == ("__classdict__" : Str)) = false := by decide) (hs : swapsWith v (some (.Subscript (.Name x p0) k p1)) pos.line X.env = pure false := by rfl) : DS X (.Assign [.Subscript (.Name x p0) k p1] v pos) (sPutT i tk tv) :=
  PS.weak (ps_dput hu (pe_var hi hvs hd hcd) hk hv hs) fun Dn σ H ⟨r0, G0, H0, r, G, ρ, P, E, p, q⟩ => ⟨r, G, ρ, _, E.env, p, fun w y G1 H1 ⟨l, el, p1⟩ W1 R1 => by
    have E1 := E.grow W1
    obtain ⟨a, h1, h2⟩ := own_kt E1.env el
    refine ⟨.ref a, h1, r, G1, ρ, _, E1.env, p1, fun u x G2 H2 ⟨key, n, ek, en, hl, p2⟩ W2 R2 => ?_⟩
    have E2 := E1.grow W2
    obtain ⟨a', h1', h2'⟩ := own_kt E2.env el
    rw [h1] at h1'
    cases h1'
    subst ek en
    cases R1
    obtain ⟨b, rfl, hb⟩ := rep_pair R2
    refine ⟨a, _, rfl, .t h2' (E2.env.st.gh _ _ hb) (by simpa [vtL] using hl), ?_⟩
    rw [putK_kt]
    exact q.nx _ _ _ _ _ p2 (E2.put el h1 (.dicT upd_same (kt_rep _)))⟩
/-- x.get((a, b), e), x one's own -/
def dGet2 (i : Nat) (tk tx : PT0) : PT0 := fun ρ P => ∃ l, ρ[i]? = some (.own (kt l)) ∧ tk ρ fun y => tx ρ fun z => ∃ k n, y = pairI k ∧ z = .int n ∧ P (.int ((getP l k).getD n))
theorem de_get2 (i : Nat) {x : Str} {apos cpos : Pos} {e f : Expr} {te tf : PT0} (hu : X.A.units + 1 < cLine) (he : DE X e te) (hf : DE X f tf) (hi : X.N[i]? = some x := by rfl) (hvs : Vis X.env.scope x := by first | exact Or.inl rfl | exact Or.inr (Or.inl rfl) | exact Or.inr (Or.inr rfl)) (hd : (x == ("__debug__" : Str)) = false := by decide)
    (hcd : (x == ("__classdict__" : Str)) = false := by decide) (m : M2 X (.Name x p0) "get" apos e f cpos := by exact ⟨rfl, rfl, rfl, rfl⟩) : DE X (.Call (.Attribute (.Name x p0) "get" apos) [e, f] [] cpos) (dGet2 i te tf) :=
  PE.weak (pe_dget2 hu (pe_var hi hvs hd hcd) he hf m) fun σ H Q ⟨r, G, ρ, P, E, ⟨l, el, p⟩, q⟩ => by
    obtain ⟨a, h1, h2⟩ := own_kt E el
    refine ⟨.ref a, h1, a, rfl, .inr ⟨_, .inl h2⟩, r, G, ρ, _, E, p, fun u y G1 H1 p1 W1 R1 => ⟨r, G1, ρ, _, E.grow W1, p1, fun w z G2 H2 ⟨k, n, ek, en, p2⟩ W2 R2 => ?_⟩⟩
    subst ek en
    cases R2
    have E2 := (E.grow W1).grow W2
    obtain ⟨a', h1', h2'⟩ := own_kt E2 el
    rw [h1] at h1'
    cases h1'
    obtain ⟨b, rfl, hb⟩ := rep_pair (R1.mono W2.g)
    refine ⟨_, DGet.t h2' (W2.gh _ _ hb), ?_⟩
    rw [valV_kt]
    cases h : getP l k with
    | none => rw [h] at p2; exact q _ _ _ _ p2 (W1.trans W2) (.int _)
    | some m => rw [h] at p2; exact q _ _ _ _ p2 (W1.trans W2) (.int _)
/-- k in d, k not in d, d[k]: d known -/
def dInT (n : Bool) (tk td : PT0) : PT0 := fun ρ P => tk ρ fun x => td ρ fun d => ∃ l k, d = kt l ∧ x = pairI k ∧ P (.bool (n != (getP l k).isSome))
theorem de_notInT (hu : X.A.units + 1 < cLine) (hk : DE X k tk) (hd : DE X a td) (hm : behindInMarks .NotIn a = false := by rfl) : DE X (.Compare k [.NotIn] [a] pos) (dInT true tk td) :=
  PE.weak (pe_cmp (pc_dnotin hu hk hd) hm) fun σ H Q ⟨r, G, ρ, P, E, p, q⟩ => ⟨r, G, ρ, _, E, p, fun u x G1 H1 p1 W1 R1 => ⟨r, G1, ρ, _, E.grow W1, p1, fun w d G2 H2 ⟨l, key, ed, ek, p2⟩ W2 R2 => by
    subst ek ed
    obtain ⟨c, o', rfl, hg⟩ := rep_kt R2
    obtain ⟨b, rfl, hb⟩ := rep_pair (R1.mono W2.g)
    refine ⟨c, _, rfl, .inr ⟨vtL l, pk key, b, .inr ⟨o', W2.gh _ _ hg⟩, rfl, W2.gh _ _ hb, rfl⟩, ?_⟩
    rw [valV_kt, Option.isSome_map]
    exact q _ _ _ _ (by simpa using p2) (W1.trans W2) (.bl _)⟩⟩
theorem dt_notInT (hu : X.A.units + 1 < cLine) (hk : DE X k tk) (hd : DE X a td) (hm : behindInMarks .NotIn a = false := by rfl) : DT X (.Compare k [.NotIn] [a] pos) (dTest (dInT true tk td)) :=
  PT.weak (pt_cmp (pc_dnotin hu hk hd) hm) fun σ H Q ⟨r, G, ρ, P, E, p, q⟩ => ⟨r, G, ρ, _, E, p, fun u x G1 H1 p1 W1 R1 => ⟨r, G1, ρ, _, E.grow W1, p1, fun w d G2 H2 ⟨l, key, ed, ek, p2⟩ W2 R2 => by
    subst ek ed
    obtain ⟨c, o', rfl, hg⟩ := rep_kt R2
    obtain ⟨b, rfl, hb⟩ := rep_pair (R1.mono W2.g)
    refine ⟨c, _, rfl, .inr ⟨vtL l, pk key, b, .inr ⟨o', W2.gh _ _ hg⟩, rfl, W2.gh _ _ hb, rfl⟩, ?_⟩
    rw [valV_kt, Option.isSome_map]
    obtain ⟨kk, e3, p3⟩ := p2
    cases e3
    exact ⟨_, rfl, q _ _ _ (by simpa using p3) (W1.trans W2)⟩⟩⟩
def dGetT (td tk : PT0) : PT0 := fun ρ P => td ρ fun d => tk ρ fun x => ∃ l k n, d = kt l ∧ x = pairI k ∧ getP l k = some n ∧ P (.int n)
theorem de_getT (hu : X.A.units + 1 < cLine) (hd : DE X a td) (hk : DE X k tk) (hs : NoSl k := by exact fun _ _ => rfl) : DE X (.Subscript a k pos) (dGetT td tk) :=
  PE.weak (pe_dget hu hd hk hs) fun σ H Q ⟨r, G, ρ, P, E, p, q⟩ => ⟨r, G, ρ, _, E, p, fun u d G1 H1 p1 W1 R1 => ⟨r, G1, ρ, _, E.grow W1, p1, fun w x G2 H2 ⟨l, key, n, ed, ek, hy, p2⟩ W2 R2 => by
    subst ek ed
    obtain ⟨c, o', rfl, hg⟩ := rep_kt (R1.mono W2.g)
    obtain ⟨b, rfl, hb⟩ := rep_pair R2
    exact ⟨c, V.int n, rfl, .inr ⟨vtL l, pk key, b, .inr ⟨o', W2.gh _ _ hg⟩, rfl, W2.gh _ _ hb, by rw [valV_kt, hy]; rfl⟩, q _ _ _ _ p2 (W1.trans W2) (.int _)⟩⟩⟩
end
end PD
/-! PDt: sorted(..) of rows of ints of any sign, len(set(..)). -/
namespace PD
open PySem PySem.Spec PyProof.Rows L2

/-- the rank of a row, M added to each of its ints -/
def rk (M B : Int) (ns : List Int) : Int := TS.code B (ns.map (· + M))
def Bm (M B : Int) (ns : List Int) : Prop := TS.Bd B (ns.map (· + M))
theorem Bm.hd {M B p : Int} {ns : List Int} (h : Bm M B (p :: ns)) : 0 ≤ p + M ∧ p + M < B := h (p + M) (by simp)
theorem Bm.tl {M B p : Int} {ns : List Int} (h : Bm M B (p :: ns)) : Bm M B ns := fun m hm => h m (by rw [List.map_cons]; exact List.mem_cons_of_mem _ hm)
section
variable {prog : Program} {w : World} {A : Around} {E : Value → Shared → Prop} {s : Shared} {Q : Bool → Shared → Prop}
theorem rows_lex {M B : Int} {b : Bool} : ∀ {us vs : List Value} {ns ms : List Int} (i : Nat), IntsAre us ns → IntsAre vs ms → ns.length = ms.length → Bm M B ns → Bm M B ms → Q (decide (rk M B ns < rk M B ms)) s → PySem.W.KatLex prog w A b false Q (us.zip vs) i s
  | _, _, _, _, i, .nil, .nil, _, _, _, h => by
    have z : decide (rk M B [] < rk M B []) = false := decide_eq_false (Int.lt_irrefl _)
    rw [z] at h
    exact PySem.W.kat_nil h
  | _, _, _, _, i, .nil, .cons _ _ _, hl, _, _, _ => by simp at hl
  | _, _, _, _, i, .cons _ _ _, .nil, hl, _, _, _ => by simp at hl
  | _, _, _, _, i, .cons (ns := ns) p t hu, .cons (ns := ms) q u hv, hl, h1, h2, h => by
    have hl2 : ns.length = ms.length := by simpa using hl
    have hl3 : (ns.map (· + M)).length = (ms.map (· + M)).length := by simpa using hl2
    show PySem.W.KatLex prog w A b false Q ((Value.int p t, Value.int q u) :: _) i s
    refine PySem.W.kat_cons (wpAny_eqBool_int ?_)
    by_cases e : p = q
    · subst e
      rw [beq_self_eq_true]
      have z : decide (rk M B (p :: ns) < rk M B (p :: ms)) = decide (rk M B ns < rk M B ms) := decide_eq_decide.mpr (TS.code_same hl3)
      rw [z] at h
      exact PySem.W.kat_yes (rows_lex (i + 1) hu hv hl2 h1.tl h2.tl h)
    · rw [show (p == q) = false from beq_eq_false_iff_ne.mpr e]
      refine PySem.W.kat_no (TS.oneLt_ints _ ?_)
      have z : decide (rk M B (p :: ns) < rk M B (q :: ms)) = decide (p < q) := by
        refine decide_eq_decide.mpr ⟨fun k => ?_, fun k => TS.code_lt hl3 h1.tl h2.tl (by show p + M < q + M; omega)⟩
        rcases Int.lt_trichotomy p q with y | y | y
        · exact y
        · exact absurd y e
        · have g : rk M B (q :: ms) < rk M B (p :: ns) := TS.code_lt hl3.symm h2.tl h1.tl (by show q + M < p + M; omega)
          omega
      rw [z] at h
      exact h
end
def RowsOk (h : Heap) (d : Nat) (M B : Int) (vs : List Value) : Prop := ∀ v, v ∈ vs → ∃ ns, TS.TupInts h v ns ∧ ns.length = d ∧ Bm M B ns
theorem RowsOk.keeps {h h' : Heap} {d : Nat} {M B : Int} {vs : List Value} (x : RowsOk h d M B vs) (k : ∀ b o, h.get? b = some o → o.cls = .type "tuple" → h'.get? b = some o) : RowsOk h' d M B vs := fun v hv => by
  obtain ⟨ns, a, b, c⟩ := x v hv
  exact ⟨ns, a.keeps k, b, c⟩
theorem rows_firsts {h : Heap} {d : Nat} {M B : Int} (hd : 1 ≤ d) : ∀ us : List Value, RowsOk h d M B us → ∃ gs, PySem.W.KatTups h us gs ∧ gs.length = us.length ∧ ∀ g, g ∈ gs → ∃ n t, g = Value.int n t
  | [], _ => ⟨[], PySem.W.KatTups.nil, rfl, fun g hg => absurd hg (by simp)⟩
  | u :: us, x => by
    obtain ⟨gs, k, hl, hi⟩ := rows_firsts hd us fun y hy => x y (List.mem_cons_of_mem _ hy)
    obtain ⟨ns, ⟨a, cs, rfl, ⟨o, ho, hc, n, hdt⟩, ia⟩, hn, _⟩ := x u (List.mem_cons_self ..)
    obtain ⟨y, ys, ec⟩ : ∃ y ys, cs.toList = y :: ys := by
      cases qc : cs.toList with
      | nil =>
        rw [qc] at ia
        have il := ia.length
        rw [List.length_nil, hn] at il
        omega
      | cons y ys => exact ⟨y, ys, rfl⟩
    obtain ⟨m, t, hy⟩ := ia.all y (by rw [ec]; exact List.mem_cons_self ..)
    refine ⟨y :: gs, PySem.W.KatTups.cons ho hc hdt ?_ k, by simp [hl], fun g hg => ?_⟩
    · have z := congrArg (fun l : List Value => l[0]?) ec
      simpa using z
    · rcases List.mem_cons.mp hg with rfl | hg
      · exact ⟨m, t, hy⟩
      · exact hi g hg
section
variable {prog : Program} {w : World} {A : Around} {E : Value → Shared → Prop} {s : Shared}
theorem rows_kind {d : Nat} {M B : Int} {us : List Value} (hd : 1 ≤ d) (two : 2 ≤ us.length) (x : RowsOk s.heap d M B us) (r : Value → Int) (hr : ∀ v, v ∈ us → ∀ ns, TS.TupInts s.heap v ns → r v = rk M B ns) (Q : SortKind → Shared → Prop)
    (h : ∀ κ, TS.Cmp prog w A s κ (pairsOf us) r → Q κ s) : wpAny (model prog w) A (keyKind' us.toArray) Q E s := by
  obtain ⟨gs, k, hl, hi⟩ := rows_firsts hd us x
  refine PySem.W.kat_kind (T := Value.type "int") k (by omega) (fun g hg => ?_) rfl (h _ ?_)
  · obtain ⟨n, t, rfl⟩ := hi g hg
    exact PySem.W.Looks.of_pure rfl
  · intro p q hp hq Q2 E2 h2
    rw [pairsOf_toList] at hp hq
    have mp := (mem_zip_self hp).2
    have mq := (mem_zip_self hq).2
    obtain ⟨ns, tp, lp, bp⟩ := x _ mp
    obtain ⟨ms, tq, lq, bq⟩ := x _ mq
    have h3 : Q2 (decide (rk M B ns < rk M B ms)) s := by
      rw [← hr _ mp _ tp, ← hr _ mq _ tq]
      exact h2
    obtain ⟨a, cs, ep, ⟨o, ho, hc, n, hdt⟩, ia⟩ := tp
    obtain ⟨a', cs', eq, ⟨o', ho', hc', n', hdt'⟩, ia'⟩ := tq
    rw [ep, eq]
    refine PySem.W.kat_lt ho hdt ho' hdt' ?_
    have same : decide (cs.size < cs'.size) = false := by
      have j1 := ia.length
      have j2 := ia'.length
      rw [Array.length_toList] at j1 j2
      exact decide_eq_false (by omega)
    rw [same]
    exact rows_lex 0 ia ia' (by omega) bp bq h3
theorem rows_sort {a : Addr} {us : List Value} {n d : Nat} {M B : Int} {P : PySem.Fin → Shared → Prop} (ha : s.heap.get? a = some (seqObj "list" us.toArray n)) (few : us.length < 64) (hd : 1 ≤ d) (x : RowsOk s.heap d M B us)
    (r : Value → Int) (hr : ∀ v, v ∈ us → ∀ ns, TS.TupInts s.heap v ns → r v = rk M B ns)
    (h : ∀ out : Array Value, out.toList.Perm us → out.toList.Pairwise (fun u v => r u ≤ r v) → P (.done (.ret .none)) { s with heap := sortedHeap s.heap a us out }) :
    wpAny (model prog w) A (Builtin.«list.sort» ⟨[.ref a], []⟩) P E s := by
  have stay : ∀ b o, s.heap.get? b = some o → o.cls = .type "tuple" → (TS.midHeap s.heap a us).get? b = some o := fun b o e hc => by
    refine TS.midHeap_old (fun z => ?_) e
    subst z
    rw [ha] at e
    have e1 : seqObj "list" us.toArray n = o := Option.some.inj e
    rw [← e1] at hc
    have e2 : Value.type "list" = Value.type "tuple" := hc
    injection e2 with e3
    exact absurd e3 (by decide)
  refine SK.plain_sort (r := r) ha few (fun two Q hQ => ?_) fun ps out g1 g2 g3 => ?_
  · refine rows_kind (s := { s with heap := TS.midHeap s.heap a us }) hd two (x.keeps stay) r (fun v hv ns t => ?_) Q hQ
    obtain ⟨n0, t0, _⟩ := x v hv
    have e : ns = n0 := t.ints.symm.trans (t0.keeps stay).ints
    rw [e]
    exact hr v hv n0 t0
  · obtain ⟨z1, z2⟩ := TS.out_rank g1 g2 g3
    exact h out z1 z2
theorem collect_tup {t : Addr} {us : List Value} {Q : List Value → Shared → Prop} (ht : IsTup s.heap t us.toArray) (hz : us.length ≤ sizeLine)
    (h : Q us { s with heap := (s.heap.push (seqObj "list" #[] 0)).update s.heap.objs.size (Obj.mapSeq (· ++ us.toArray)) }) :
    wpAny (model prog w) A (collect (.ref t)) Q E s := by
  obtain ⟨ot, e1, e2, m, e3⟩ := id ht
  unfold collect
  refine wpAny_bind (wpAny_runValue (codeAny_builtin entry_proto_collect' ?_))
  show wpAny _ _ (do again (.builtin "list.__iadd__" ⟨[← newList [], .ref t], []⟩)) _ _ s
  refine wpAny_bind (wpAny_newList (wpAny_pure ⟨Code.quiet_builtin _ (by decide +kernel), codeAny_builtin entry_list_iadd' ?_⟩))
  show wpAny _ _ (Builtin.List.listExtendWith (.ref s.heap.objs.size) (.ref t) (.ref s.heap.objs.size)) _ _ { s with heap := s.heap.push (seqObj "list" #[] 0) }
  unfold Builtin.List.listExtendWith
  have e4 : (s.heap.push (seqObj "list" #[] 0)).get? t = some ot := Heap.get?_push_of_some _ e1
  refine wpAny_bind (wpAny_typeOf (T := "tuple") ⟨ot, e4, e2⟩ ?_)
  have yes : (Value.type "tuple" == Value.type "tuple") = true := by rfl
  rw [if_pos (by rw [yes]; simp)]
  refine wpAny_bind (listItems_at e4 e3 ?_)
  refine wpAny_bind (listItems_at (xs := (#[] : Array Value)) (n := 0) (Heap.get?_push_size _ rfl) rfl ?_)
  rw [if_neg (show ¬ _ from by simp)]
  refine wpAny_bind (listUpdate_at (xs := (#[] : Array Value)) (n := 0) (Heap.get?_push_size _ rfl) rfl ?_ (Nat.zero_le _) (by show (#[] ++ us.toArray).size ≤ sizeLine + 1; simp only [Array.size_append, List.size_toArray, List.length_nil]; omega))
  refine wpAny_pure ?_
  refine wpAny_bind (wpAny_load (get?_update_seq (Heap.get?_push_size _ rfl) _) ?_)
  show wpAny _ _ (pure ((#[] : Array Value) ++ us.toArray).toList) Q E _
  rw [show ((#[] : Array Value) ++ us.toArray).toList = us from by simp]
  exact wpAny_pure h
theorem rows_sorted {l : Addr} {us : List Value} {d : Nat} {M B : Int} {Q : Value → Shared → Prop} (hl : s.heap.IsList l us.toArray ∨ IsTup s.heap l us.toArray) (few : us.length < 64) (hd : 1 ≤ d) (x : RowsOk s.heap d M B us)
    (h : ∀ out : Array Value, out.toList.Perm us → out.toList.Pairwise (fun u v => rk M B (TS.intsOf s.heap u) ≤ rk M B (TS.intsOf s.heap v)) → Q (.ref (s.heap.objs.size + 1)) { s with heap := sortedAll s.heap us out }) :
    wpAny (model prog w) A (call (.builtin "sorted") [.ref l]) Q E s := by
  refine Calls.call_function_entry kind_sorted plain_sorted entry_sorted (args_sorted1 _) ?_
  unfold Builtin.«sorted»
  refine wpAny_bind (m := checkCount "sorted" 1 1 _) (wpAny_pure ?_)
  refine wpAny_bind ((fun k => hl.elim (fun a => collect_list a k (by rw [sizeLine_eq]; omega)) (fun a => collect_tup a (by rw [sizeLine_eq]; omega) k)) ?_)
  refine wpAny_bind (wpAny_newList ?_ (by rw [sizeLine_eq]; omega))
  generalize hg : (s.heap.push (seqObj "list" #[] 0)).update s.heap.objs.size (Obj.mapSeq (· ++ us.toArray)) = g
  have gz : g.objs.size = s.heap.objs.size + 1 := by rw [← hg, Heap.size_update, size_push']
  have old : ∀ b o, s.heap.get? b = some o → g.get? b = some o := fun b o q => by
    have lt : b < s.heap.objs.size := Heap.lt_size q
    rw [← hg, Heap.get?_update_ne _ _ _ _ (Nat.ne_of_lt lt), Heap.get?_push_ne _ _ _ (Nat.ne_of_lt lt)]
    exact q
  have newL : (g.push (seqObj "list" us.toArray 0)).get? (s.heap.objs.size + 1) = some (seqObj "list" us.toArray 0) := by
    rw [← gz]; exact Heap.get?_push_size _ rfl
  have stay : ∀ b o, s.heap.get? b = some o → o.cls = .type "tuple" → (g.push (seqObj "list" us.toArray 0)).get? b = some o := fun b o q _ => Heap.get?_push_of_some _ (old b o q)
  dsimp only
  rw [gz]
  show wpAny _ _ _ _ _ { s with heap := g.push (seqObj "list" us.toArray 0) }
  refine wpAny_bind (wpAny_holding (wpAny_call_entry slot_list_sort ⟨_, newL, rfl⟩ entry_list_sort (rows_sort newL few hd (x.keeps stay) (fun v => rk M B (TS.intsOf s.heap v)) (fun v hv ns t => ?_) fun out z1 z2 => ⟨_, rfl, ?_⟩) (args_list_sort _)))
  · obtain ⟨n0, t0, _⟩ := x v hv
    have e : ns = n0 := t.ints.symm.trans (t0.keeps stay).ints
    rw [e]
    show rk M B (TS.intsOf s.heap v) = rk M B n0
    rw [t0.ints]
  · refine wpAny_pure ⟨_, rfl, ?_⟩
    have q := h out z1 z2
    unfold sortedAll at q
    first
      | exact q
      | (rw [← hg]; exact q)
end
/-! ### as data -/
def rowI (ns : List Int) : Dt := .tuple (ns.map .int)
def fSortR (d : Nat) (M B : Int) : FC := fun ds P => ∃ rows : List (List Int), (ds = [.list (rows.map rowI)] ∨ ds = [.tuple (rows.map rowI)]) ∧ 1 ≤ d ∧ rows.length < 64 ∧ (∀ r ∈ rows, r.length = d ∧ Bm M B r) ∧
  ∀ out : List (List Int), out.Perm rows → out.Pairwise (fun a b => rk M B a ≤ rk M B b) → P (.list (out.map rowI))
theorem rep_row {K : Fg} {G : Hp} {v : V} {ns : List Int} (h : Rep K G v (rowI ns)) : ∃ b, v = .ref b ∧ G b = some (.tup (ns.map V.int)) := by
  unfold rowI at h
  cases h with
  | tup e r =>
    have := r.ints
    subst this
    exact ⟨_, rfl, e⟩
theorem row_rep {K : Fg} {G : Hp} {b : Addr} {ns : List Int} (h : G b = some (.tup (ns.map V.int))) : Rep K G (.ref b) (rowI ns) := .tup h Reps.of_ints
section
variable {X : Cx}
/-- the rows behind a list of references -/
theorem reps_rows {K : Fg} {G : Hp} : ∀ {vs : List V} {rows : List (List Int)}, Reps K G vs (rows.map rowI) → ∃ bs : List Addr, vs = bs.map V.ref ∧ Paired (fun b ns => G b = some (.tup ((ns : List Int).map V.int))) bs rows
  | _, [], h => by cases h; exact ⟨[], rfl, .nil⟩
  | _, r :: rows, h => by
    rw [List.map_cons] at h
    cases h with
    | cons a t =>
      obtain ⟨b, rfl, hb⟩ := rep_row a
      obtain ⟨bs, e, hp⟩ := reps_rows t
      exact ⟨b :: bs, by rw [e]; rfl, .cons hb hp⟩
theorem refs_out {bs : List Addr} {us : List Value} (h : Vals (bs.map V.ref) us) : us = bs.map Value.ref := by
  induction bs generalizing us with
  | nil => cases h; rfl
  | cons b bs ih =>
    cases h with
    | cons a t => cases a; rw [ih t]; rfl
theorem pair_perm {α β : Type} {R : α → β → Prop} : ∀ {as as' : List α}, as'.Perm as → ∀ {bs : List β}, Paired R as bs → ∃ bs', bs'.Perm bs ∧ Paired R as' bs' := by
  intro as as' h
  induction h with
  | nil => intro bs hp; exact ⟨bs, .refl _, hp⟩
  | cons a _ ih =>
    intro bs hp
    cases hp with
    | cons r t =>
      obtain ⟨bs', h1, h2⟩ := ih t
      exact ⟨_ :: bs', h1.cons _, .cons r h2⟩
  | swap a b l =>
    intro bs hp
    cases hp with
    | cons r t =>
      cases t with
      | cons r2 t => exact ⟨_, .swap .., .cons r2 (.cons r t)⟩
  | trans _ _ ih1 ih2 =>
    intro bs hp
    obtain ⟨bs1, h1, h2⟩ := ih2 hp
    obtain ⟨bs2, h3, h4⟩ := ih1 h2
    exact ⟨bs2, h3.trans h1, h4⟩
theorem paired_back {α β : Type} {R : α → β → Prop} : ∀ {as : List α} {bs : List β} {j : Nat} {y : β}, Paired R as bs → bs[j]? = some y → ∃ x, as[j]? = some x ∧ R x y
  | _, _, _, _, .nil, e => by simp at e
  | _, _, 0, _, .cons r t, e => by simp at e; subst e; exact ⟨_, rfl, r⟩
  | _, _, j + 1, _, .cons r t, e => by
    obtain ⟨x, h1, h2⟩ := paired_back (j := j) t (by simpa using e)
    exact ⟨x, by simpa using h1, h2⟩
theorem dc_sortR {d : Nat} {M B : Int} : DC X (.builtin "sorted") (fSortR d M B) := by
  intro pins s σ H vs us Q I rv ⟨r, G, ds, P, S, hd, ⟨rows, eds, hd1, few, hr, p⟩, q⟩
  have key : ∀ (l : Addr) (ws : List V), vs = [.ref l] → (SqL X.K H l ws ∨ SqT X.K H l ws) → Reps X.K G ws (rows.map rowI) → wpAny (model X.prog X.w) X.A (call (.builtin "sorted") us) (EP X pins σ Q) X.xe s := by
    intro l ws ev hl hw
    subst ev
    rw [Vals.ref1 rv]
    obtain ⟨bs, rfl, hp⟩ := reps_rows hw
    have hlen : bs.length = rows.length := Paired.length hp
    obtain ⟨its, e1, hshape⟩ : ∃ its : List Value, its = bs.map Value.ref ∧ (s.heap.IsList l its.toArray ∨ IsTup s.heap l its.toArray) := by
      rcases hl with hl | hl
      · obtain ⟨its, rr, pl, hz⟩ := I.list hl
        exact ⟨its, refs_out rr, .inl pl.isList⟩
      · obtain ⟨its, rr, ht, hz⟩ := I.tuple hl
        exact ⟨its, refs_out rr, .inr ht⟩
    subst e1
    have raw : ∀ {b : Addr} {ns : List Int}, G b = some (.tup (ns.map V.int)) → TS.TupInts s.heap (.ref b) ns := fun {b ns} e => tupI_raw I (.inl (.inl (S.gh _ _ e)))
    refine rows_sorted (d := d) (M := M) (B := B) hshape (by rw [List.length_map, hlen]; exact few) hd1 (fun v hv => ?_) fun out h1 h2 => ?_
    · obtain ⟨b, hb, rfl⟩ := List.mem_map.mp hv
      obtain ⟨j, hj⟩ := List.mem_iff_getElem?.mp hb
      obtain ⟨ns, hns, e⟩ := paired_get hp hj
      exact ⟨ns, raw e, hr ns (List.mem_of_getElem? hns)⟩
    · obtain ⟨ep, he⟩ := PyProof.Rows.sortedAll_at s.heap (bs.map Value.ref) out
      obtain ⟨cs, hc1, hc2⟩ : ∃ cs : List Addr, out.toList = cs.map Value.ref ∧ cs.Perm bs := by
        refine ⟨out.toList.map fun v => match v with | .ref b => b | _ => 0, ?_, ?_⟩
        · rw [List.map_map]
          conv => lhs; rw [← List.map_id out.toList]
          refine List.map_congr_left fun v hv => ?_
          obtain ⟨b, _, rfl⟩ := List.mem_map.mp (h1.mem_iff.mp hv)
          rfl
        · have := h1.map fun v => match v with | .ref b => b | _ => (0 : Addr)
          rw [List.map_map] at this
          have e2 : (bs.map ((fun v => match v with | .ref b => b | _ => (0 : Addr)) ∘ Value.ref)) = bs := by
            conv => rhs; rw [← List.map_id bs]
            rfl
          rw [e2] at this
          exact this
      obtain ⟨outs, ho1, ho2⟩ := pair_perm hc2 hp
      have hz : (cs.map V.ref).length ≤ sizeLine := by rw [List.length_map, hc2.length_eq, hlen, sizeLine_eq]; omega
      have hfr : H (s.heap.objs.size + 1) = none := I.hok.fresh (Nat.le_succ _)
      have rvs : Vals (cs.map V.ref) out.toList := by
        rw [hc1]
        clear hc1 hc2 ho1 ho2 hz
        induction cs with
        | nil => exact .nil
        | cons c cs ih => exact .cons rfl ih
      have W := S.lay (o := .lst (cs.map V.ref)) hfr
      refine ⟨.ref _, upd H (s.heap.objs.size + 1) (.lst (cs.map V.ref)), I.laid (t' := s.toks) (fun _ _ => PyProof.Rows.sortedAll_old) (Nat.le_succ _) ⟨hz, out.toList, ep, rvs, he⟩, rfl, q _ _ _ _ (p outs ho1 ?_) W (.lst upd_same ?_)⟩
      · rw [hc1, List.pairwise_map] at h2
        have hk : ∀ {cs : List Addr} {outs : List (List Int)}, Paired (fun b ns => G b = some (.tup ((ns : List Int).map V.int))) cs outs → cs.Pairwise (fun a b => rk M B (TS.intsOf s.heap (.ref a)) ≤ rk M B (TS.intsOf s.heap (.ref b))) → outs.Pairwise (fun a b => rk M B a ≤ rk M B b) := by
          intro cs outs hp
          induction hp with
          | nil => intro _; exact .nil
          | cons e t ih =>
            intro hw
            obtain ⟨w1, w2⟩ := List.pairwise_cons.mp hw
            refine List.pairwise_cons.mpr ⟨fun m hm => ?_, ih w2⟩
            obtain ⟨j, hj⟩ := List.mem_iff_getElem?.mp hm
            obtain ⟨b, hb, eb⟩ : ∃ b, _ ∧ G b = some (.tup ((m : List Int).map V.int)) := by
              obtain ⟨b, hb, eb⟩ := paired_back t hj
              exact ⟨b, hb, eb⟩
            have := w1 b (List.mem_of_getElem? hb)
            rw [(raw e).ints, (raw eb).ints] at this
            exact this
        exact hk ho2 h2
      · have : ∀ {cs : List Addr} {outs : List (List Int)}, Paired (fun b ns => G b = some (.tup ((ns : List Int).map V.int))) cs outs → Reps X.K G (cs.map V.ref) (outs.map rowI) := by
          intro cs outs hp
          induction hp with
          | nil => exact .nil
          | cons e t ih => exact .cons (row_rep e) ih
        exact (this ho2).mono W.g
  rcases eds with e | e
  · subst e
    cases hd with
    | cons h1 h2 =>
      cases h2
      cases h1 with
      | lst e r1 => exact key _ _ rfl (.inl (SqL.of (S.gh _ _ e))) r1
  · subst e
    cases hd with
    | cons h1 h2 =>
      cases h2
      cases h1 with
      | tup e r1 => exact key _ _ rfl (.inr (same_seqP S.gh e)) r1
end
end PD
/-! PDp: pairs walked, lists that a def gives away, sets of ints and of pairs by their size. -/
namespace PD
open PySem PySem.Spec PyProof.Rows L2

/-! ### [e for (x, y), z in d.items()] -/
def gPairs (K : Fg) (i j k : Nat) : TG := gTup K 2 (gCons (gTup K 2 (gCons (gName i) (gCons (gName j) gNil))) (gCons (gName k) gNil))
def put3 (i j k : Nat) (e : Pk) (ρ : List PV) : List PV := ((ρ.set i (.d (.int e.1.1))).set j (.d (.int e.1.2))).set k (.d (.int e.2))
def lcT (te : PT0) (i j k : Nat) (ρ : List PV) : List Pk → List Dt → (List Dt → Prop) → Prop
  | [], acc, P => P acc
  | e :: es, acc, P => te (put3 i j k e ρ) fun y => lcT te i j k ρ es (acc ++ [y]) P
def dCompT (td : PT0) (i j k : Nat) (te : PT0) (vs : List Nat) : PT0 := fun ρ P => td ρ fun d => ∃ l, d = kt l ∧ l.length ≤ sizeLine ∧ lcT te i j k (wipeP ρ vs) l [] fun ys => P (.list ys)
theorem walk_pairs {d : Addr} {o : Obj} {kvs : List (List Key × V)} : Walk (Itq d o kvs) kvs.length (fun H => H d = some (.frz o (.dT kvs))) (fun i H x H' => ∃ (T q : Addr) (k : List Key) (v : V), kvs[i]? = some (k, v) ∧ x = .ref T ∧ H T = none ∧ H q = some (.tup (k.map kV)) ∧ H' = upd H T (.tup [.ref q, v])) :=
  ⟨fun _ _ hi q => ⟨q, hi⟩, fun _ q => ⟨q, Nat.le_refl _⟩, fun _ _ _ _ _ _ y => y⟩
section
variable {X : Cx} {pos p p0 p1 p2 px py pz : Pos} {e : Expr}
theorem lift_pairs {td te : PT0} {i j k : Nat} {vs : List Nat} (hv : i ∈ vs ∧ j ∈ vs ∧ k ∈ vs) {σ : L2.St} {H : Hp} {Q : VK} (h : liftE X.K (dCompT td i j k te vs) σ H Q) :
    tLc (iPairs (liftE X.K td)) (gPairs X.K i j k) tYes (liftE X.K te) vs σ H Q := by
  obtain ⟨r, G, ρ, P, E, p, q⟩ := h
  refine ⟨r, G, ρ, _, E, p, fun v d G1 H1 ⟨l, ed, hz, p1⟩ W1 R1 => ?_⟩
  subst ed
  obtain ⟨a, o, rfl, hg⟩ := rep_kt R1
  refine ⟨a, o, vtL l, rfl, W1.gh _ _ hg, fun D hD => ?_⟩
  have S1 : Start X.K r G1 H1 := W1.start E.st
  have E1 := E.grow W1
  have gD : G1 D = none := S1.gh.free hD
  have rD : r ≠ some D := S1.rowNe hD
  have hlen : (vtL l).length = l.length := by simp [vtL]
  refine lc_it walk_pairs (fun i0 H => ∃ Gi acc ds, Grow X.K r G1 H1 Gi H ∧ Gi D = none ∧ H D = some (.lst acc) ∧ Reps X.K Gi acc ds ∧ ds.length ≤ i0 ∧ lcT te i j k (wipeP ρ vs) (l.drop i0) ds fun ys => P (.list ys))
    ⟨G1, [], [], S1.grow.off hD gD rD (ne_no hD), gD, upd_same, .nil, Nat.zero_le _, by rw [List.drop_zero]; exact p1⟩ (fun i0 H _ ⟨Gi, _, _, W, _⟩ => W.gh _ _ (W.g _ _ hg)) (fun i0 x H H' hi ⟨Gi, acc, ds, W, gi, hd, R, hl, pp⟩ hy => ?_) (fun H ⟨Gi, acc, ds, W, gi, hd, R, hl, pp⟩ => ?_)
  · rw [hlen] at hi
    obtain ⟨T, q0, kk, v, e1, rfl, hT, hq, rfl⟩ := hy
    have e2 : (pk l[i0].1, V.int l[i0].2) = (kk, v) := by
      unfold vtL at e1
      rw [List.getElem?_map, List.getElem?_eq_getElem hi] at e1
      exact Option.some.inj e1
    obtain ⟨rfl, rfl⟩ := Prod.mk.inj e2
    rw [List.drop_eq_getElem_cons hi] at pp
    have Si := W.start S1
    have Wc := Si.lay0 (o := .tup [.ref q0, V.int l[i0].2]) hT
    have hq' : (upd H T (.tup [.ref q0, V.int l[i0].2])) q0 = some (.tup ((pk l[i0].1).map kV)) := by rw [upd_ne (ne_of_none hq hT)]; exact hq
    refine ⟨T, _, rfl, .inl (.inl upd_same), rfl, _, _, rfl, ⟨q0, _, rfl, .inl (.inl hq'), rfl, _, _, rfl, _, _, rfl, rfl, _, _, rfl, rfl, ?_⟩⟩
    have Ew := ((E1.grow W).grow Wc).wipe vs
    have A1 := Ew.set (i := i) (v := .int l[i0].1.1) (x := .int l[i0].1.1) (.int _)
    have A2 := A1.set (i := j) (v := .int l[i0].1.2) (x := .int l[i0].1.2) (.int _)
    have A3 := A2.set (i := k) (v := .int l[i0].2) (x := .int l[i0].2) (.int _)
    have Sx : Sets ([i] ++ [j] ++ [k]) (L2.wipe σ vs) (wipeP ρ vs) _ _ := ((set_sets (K := X.K) (r := r) (G := Gi) (H := H) i (.int l[i0].1.1) (.int l[i0].1.1)).trans (set_sets (K := X.K) (r := r) (G := Gi) (H := H) j (.int l[i0].1.2) (.int l[i0].1.2))).trans (set_sets (K := X.K) (r := r) (G := Gi) (H := H) k (.int l[i0].2) (.int l[i0].2))
    refine ⟨wipe_twice (js := [i] ++ [j] ++ [k]) (fun m hm => ?_) (fun m hm => (Sx.other m hm).1) (Sx.len.trans (wipe_length σ vs)), ?_⟩
    · simp only [List.mem_append, List.mem_singleton] at hm
      rcases hm with (rfl | rfl) | rfl
      · exact hv.1
      · exact hv.2.1
      · exact hv.2.2
    simp only [tYes, eq_self, if_true]
    refine ⟨r, Gi, _, _, A3, pp, fun y d G4 H4 p4 W4 R4 => ?_⟩
    have hd2 := Wc.h D _ rD hd
    have hd4 := W4.h D _ rD hd2
    have gi4 := W4.y D _ hd2 gi
    have hal := R.length
    exact ⟨acc, hd4, by omega, G4, acc ++ [y], ds ++ [d], ((W.trans Wc).trans W4).off hD gi4 rD (ne_at hd4 ne_lst), gi4, upd_same, (R.mono W4.g).snoc R4, by rw [List.length_append, List.length_singleton]; omega, p4⟩
  · rw [hlen, List.drop_length] at pp
    have pp : P (.list ds) := pp
    exact q _ _ _ _ pp (W1.trans (W.freeze hD gi hd)) (.lst upd_same (R.mono (same_upd gi)))
theorem de_lcT {elt : Expr} {scope : Scope} (own : List (Str × Nat)) (i j k : Nat) {td te : PT0} {elts : List Expr} {k2 : Nat} {apos cpos : Pos} (hc : X.calm = true) (hN : X.N.Nodup) (hd : DE X e td)
    (hg : ∀ (s : Shared) (H : Hp) (C : Addr) (cl : List (Str × Addr)) (fp : List Addr), PG (X.blk s H scope (compEnvC scope cl C X.env) fp) (.Tuple elts k2 p2) (gPairs X.K i j k))
    (he : ∀ (s : Shared) (H : Hp) (C : Addr) (cl : List (Str × Addr)) (fp : List Addr), DE (X.blk s H scope (compEnvC scope cl C X.env) fp) elt te)
    (ok : blkC X.N X.env.scope scope own = true) (hj : i ∈ own.map (·.2) ∧ j ∈ own.map (·.2) ∧ k ∈ own.map (·.2) := by decide) (hs : ∀ x, foldedSetIterable (.Call (.Attribute e "items" apos) [] [] cpos) X.env x = pure x := by intro _; rfl)
    (hbase : attributeBase e "items" X.env (eval e X.env) = eval e X.env := by rfl) (hline : (apos.endLine == cpos.line) = true := by rfl) :
    DE X (.ListComp elt [⟨.Tuple elts k2 p2, .Call (.Attribute e "items" apos) [] [] cpos, [], 0⟩] scope pos) (dCompT td i j k te (own.map (·.2))) :=
  PE.weak (pe_lc (g := gPairs X.K i j k) (tt := tYes) (te := liftE X.K te) hc hN (pi_pairs hd hbase hline) (blkOk_by ok) hg (fun _ _ _ _ _ => pts_nil) he hs) fun σ H Q h => lift_pairs hj h
end

/-! ### a def that gives a list away -/
abbrev PFO := List PV → (List Dt → Prop) → Prop
def liftFO (K : Fg) (F : PFO) : Sp := fun vs H Q _ => ∃ (r : Option Addr) (G : Hp) (as : List PV) (P : List Dt → Prop), Start K r G H ∧ Args K r G vs as ∧ F as P ∧
  ∀ a ds ws G' H', P ds → Grow K r G H G' H' → H' a = some (.lst ws) → Reps K G' ws ds → G' a = none → H a = none → r ≠ some a → Q (.ref a) H'
abbrev PTSO := (List Dt → Prop) → List PV → Prop
def liftSO (K : Fg) (t : PTSO) : TS := fun Dn σ H => ∃ (r0 : Option Addr) (G0 H0 : Hp) (r : Option Addr) (G : Hp) (ρ : List PV) (P : List Dt → Prop), EnvS K r0 G0 H0 r G H σ ρ ∧ t P ρ ∧
  ∀ a ds ws G H, P ds → Grow K r0 G0 H0 G H → H a = some (.lst ws) → Reps K G ws ds → G a = none → H0 a = none → r0 ≠ some a → Dn.rt (.ref a) H
def DSsO (X : Cx) (st : List Stmt) (t : PTSO) : Prop := PSs X st (liftSO X.K t)
def sSeqO (t : PTS) (u : PTSO) : PTSO := fun P ρ => t { nx := u P, rt := fun _ => False } ρ
def sRetO (i : Nat) : PTSO := fun P ρ => ∃ xs, ρ[i]? = some (.own (.list xs)) ∧ P xs
section
variable {X : Cx} {pos p p0 p1 p2 pos' : Pos} {e : Expr} {es : List Expr}
theorem dso_cons {st : Stmt} {rest : List Stmt} {t : PTS} {u : PTSO} (h1 : DS X st t) (h2 : DSsO X rest u) : DSsO X (st :: rest) (sSeqO t u) := PSs.weak (pss_cons h1 h2) fun Dn σ H ⟨r0, G0, H0, r, G, ρ, P, E, p, q⟩ =>
  ⟨r0, G0, H0, r, G, ρ, _, E, p, ⟨fun r' σ' ρ' G' H' p' E' => ⟨r0, G0, H0, r', G', ρ', P, E', p', q⟩, fun _ _ _ _ _ z => z.elim, fun _ _ _ _ _ z => z.elim, fun _ _ _ _ z => z.elim⟩⟩
theorem dso_ret (i : Nat) {x : Str} (hN : X.N[i]? = some x := by rfl) (hv : Vis X.env.scope x := by first | exact Or.inl rfl | exact Or.inr (Or.inl rfl) | exact Or.inr (Or.inr rfl)) (hd : (x == ("__debug__" : Str)) = false := by decide)
    (hcd : (x == ("__classdict__" : Str)) = false := by decide) : DSsO X [.Return (some (.Name x p)) pos] (sRetO i) := PSs.weak (pss_one (ps_ret (pe_var hN hv hd hcd))) fun Dn σ H ⟨r0, G0, H0, r, G, ρ, P, E, ⟨xs, e, p⟩, q⟩ => by
    obtain ⟨a, vs, h1, h2, h3⟩ := own_in E.env e
    obtain ⟨a', h1', ga, ra, _⟩ := E.env.getO e
    rw [h1] at h1'
    cases h1'
    have ya := E.yg i a _ e h1
    refine ⟨.ref a, h1, q a xs vs G H p E.gr h2 h3 ga ya fun z => ?_⟩
    obtain ⟨o, ho⟩ := E.rh a z
    rw [ya] at ho; cases ho
theorem fd_okO {P : Program} {w : World} {K : Fg} {mg : Str → Option Value} {base : Heap} {x qual : Str} {st : Stmt} {f : Addr} {fd : FuncData} {N ps : List Str} {k : Nat} (F : PFO) (Fu : Fun K x qual st f fd) (S : FnScope N ps (defScope st)) (len : ∀ as P, F as P → as.length = ps.length)
    (body : ∀ (cdv : Value) (A : Around) (outer : List Env) (s : Shared) (H : Hp) (E : XK), Room k (A.deeper (envOfC qual (defScope st) s.heap.objs.size f cdv)) →
      ∃ t, DSsO (cxOf CX0 P w K mg base N qual (defScope st) f cdv A outer s H E).nox (defBody st) t ∧ ∀ as Q, F as Q → t Q (startP N as)) : FnOk P w K mg base CX0 (k + 1) f fd ps (liftFO K F) := by
  refine Fu.ok S (fun vs H Q E ⟨r, G, as, P, _, A, p, _⟩ => (Paired.length A).trans (len as P p)) fun cdv A outer s H vs Q E hr ⟨r, G, as, P, S1, R, p, q⟩ => ?_
  obtain ⟨t, ht, hp⟩ := body cdv A outer s H E hr
  exact ⟨liftSO K t, ht, r, G, H, r, G, startP N as, _, env_start S1 R, hp as P p, fun a ds ws G' H' p' W h1 h2 h3 h4 h5 => q a ds ws G' H' p' W h1 h2 h3 h4 h5⟩
/-- a list that came from a call becomes one's own -/
theorem EnvS.takeL {K : Fg} {r0 r : Option Addr} {G0 H0 G H G' H' : Hp} {σ : L2.St} {ρ : List PV} {a : Addr} {x : Dt} {i : Nat} (E : EnvS K r0 G0 H0 r G H σ ρ) (W : Grow K r G H G' H') (ho : OwnR K G' H' a x) (hn : H a = none) (ga : G' a = none) (ra : r ≠ some a) (hi : i < ρ.length) :
    EnvS K r0 G0 H0 r G' H' (σ.set i (some (.ref a))) (ρ.set i (.own x)) := by
  have E1 := E.grow W
  have old : ∀ {j : Nat} {z : Dt} {c : Addr}, ρ[j]? = some (.own z) → σ[j]? = some (some (.ref c)) → c ≠ a := fun {j z c} e1 e2 => by
    obtain ⟨b, h1, _, _, h2⟩ := E.env.getO e1
    rw [e2] at h1
    cases h1
    obtain ⟨o, h3, _⟩ := h2.some
    exact ne_of_none h3 hn
  have mine : ∀ {j : Nat} {c : Addr}, j = i → (σ.set i (some (V.ref a)))[j]? = some (some (.ref c)) → c = a := fun {j c} hj e => by
    subst hj
    rw [List.getElem?_set_self (by rw [E.env.len]; exact hi)] at e
    cases e; rfl
  refine ⟨⟨E1.env.st, by simp [E.env.len], fun j q e => ?_, fun j k c x' y' e1 e2 e3 e4 => ?_, fun j k C c fs e => ?_⟩, E1.gr, E.rr, E.rh, fun j c y e1 e2 => ?_, fun j C c fs e => E.yo j C c fs (set_not_obj e fun _ _ _ => by simp).2⟩
  · by_cases hj : j = i
    · subst hj
      rw [List.getElem?_set_self hi] at e
      cases e
      exact ⟨_, List.getElem?_set_self (by rw [E.env.len]; exact hi), a, rfl, ga, ra, ho⟩
    · rw [List.getElem?_set_ne (Ne.symm hj)] at e ⊢
      exact E1.env.slot j q e
  · rcases get_set_own e1 with ⟨h1, _⟩ | ⟨h1, f1⟩
    · rcases get_set_own e2 with ⟨h2, _⟩ | ⟨h2, f2⟩
      · rw [h1, h2]
      · rw [List.getElem?_set_ne (Ne.symm h2)] at e4
        exact absurd (mine h1 e3) (old f2 e4)
    · rcases get_set_own e2 with ⟨h2, _⟩ | ⟨h2, f2⟩
      · rw [List.getElem?_set_ne (Ne.symm h1)] at e3
        exact absurd (mine h2 e4) (old f1 e3)
      · rw [List.getElem?_set_ne (Ne.symm h1)] at e3
        rw [List.getElem?_set_ne (Ne.symm h2)] at e4
        exact E.env.dist j k c x' y' f1 f2 e3 e4
  · obtain ⟨j1, j2⟩ := set_not_obj e fun _ _ _ => by simp
    refine ⟨fun y ey b hb => ?_, fun D d gs eg => (E.env.apart j k C c fs j2).2 D d gs (set_not_obj eg fun _ _ _ => by simp).2⟩
    rcases get_set_own ey with ⟨h1, _⟩ | ⟨h1, f1⟩
    · intro z
      have ea := mine h1 z
      subst ea
      obtain ⟨o, _, _, q, _⟩ := E.env.slot j _ j2
      obtain ⟨u, hu, _⟩ := q.there b hb
      rw [hn] at hu; cases hu
    · rw [List.getElem?_set_ne (Ne.symm h1)]
      exact (E.env.apart j k C c fs j2).1 y f1 b hb
  · rcases get_set_own e1 with ⟨h1, _⟩ | ⟨h1, f1⟩
    · have ec := mine h1 e2
      subst ec
      cases q : H0 c with
      | none => rfl
      | some u =>
        obtain ⟨u', hu⟩ := E.gr.there q
        rw [hn] at hu; cases hu
    · rw [List.getElem?_set_ne (Ne.symm h1)] at e2
      exact E.yg j c y f1 e2
/-- x = f(..), the list that f gives away -/
def sOwnF (i : Nat) (F : PFO) (ta : PTAs) : PTS := fun P ρ => i < ρ.length ∧ ta ρ fun as => F as fun ds => P.nx (ρ.set i (.own (.list ds)))
theorem ds_ownF (i : Nat) {x y : Str} {k : Nat} {f : Addr} {fd : FuncData} {ps : List Str} {F : PFO} {ta : PTAs} {st : Stmt} {j : Nat} (D : Df X.K X.mg y st ps f fd) (Fk : FnOk X.prog X.w X.K X.mg X.base CX0 k f fd ps (liftFO X.K F)) (hr : Room j X.A) (hN : X.N.Nodup) (ha : DAs X (e :: es) ta) (hj : k ≤ j := by decide)
    (hi : X.N[i]? = some x := by rfl) (hx : Loc X.env.scope x := by first | exact Or.inl rfl | exact Or.inr rfl) (hs : swapsWith (.Call (.Name y p) (e :: es) [] p2) (some (.Name x pos')) pos.line X.env = pure false := by rfl)
    (hf : X.fn x = true ∨ X.env.scope.names.lookup x = some .local := by first | exact .inl rfl | exact .inr rfl) (hg : Gl X y := by rfl)
    (hdb : (y == ("__debug__" : Str)) = false := by decide) (he : starEach (e :: es) X.env = (false, eval e X.env) :: starEach es X.env := by rfl) (hpl : (backTo p2 (starEach es X.env)).any (·.1) = false := by rfl) :
    DS X (.Assign [.Name x pos'] (.Call (.Name y p) (e :: es) [] p2) pos) (sOwnF i F ta) :=
  PS.weak (ps_set hN hi hx (pe_call Fk (hr.mono hj) hg D.gl D.fn.kp D.bd .nil pass0 ha hdb he hpl) hs hf) fun Dn σ H ⟨r0, G0, H0, r, G, ρ, P, E, ⟨li, p⟩, q⟩ => ⟨r, G, ρ, _, E.env, p, fun us as G1 H1 p1 W1 R1 => by
    show liftFO X.K F (us ++ []) H1 _ E0
    rw [List.append_nil]
    have E1 := E.grow W1
    exact ⟨r, G1, as, _, E1.env.st, R1, p1, fun a ds ws G' H' p' W h1 h2 h3 h4 h5 => q.nx _ _ _ _ _ p' (E1.takeL W (.lst h1 h2) h4 h3 h5 li)⟩⟩
end
end PD
/-! PDg: lists of one's own given up, pairs of stores, the size of a set. -/
namespace PD
open PySem PySem.Spec PyProof.Rows L2

def isOwnL : PV → Bool
  | .own (.list _) => true
  | .own _ => false
  | _ => true
theorem known_nil (H : Hp) : Known [] H H := ⟨fun _ _ => rfl, fun b h => by cases h⟩
section
variable {X : Cx} {pos p p0 p1 p2 pos' px py pt : Pos} {e : Expr} {es : List Expr}
/-- from here on the lists of one's own are data -/
def sFrz (t : PTS) : PTS := fun P ρ => ρ.all isOwnL = true ∧ t P (ρ.map frz)
theorem ds_frz {st : Stmt} {t : PTS} (h : DS X st t) : DS X st (sFrz t) := PS.weak h fun Dn σ H ⟨r0, G0, H0, r, G, ρ, P, E, ⟨ho, p⟩, q⟩ => by
  obtain ⟨G1, E1⟩ := E.freezeAll (ds := []) (fun b => ⟨fun z => absurd z (by simp), fun ⟨⟨i, x, e1, e2⟩, hd⟩ => by
    exfalso
    obtain ⟨c, h1, _, _, h2⟩ := E.env.getO e1
    rw [e2] at h1
    cases h1
    have hx : isOwnL (.own x) = true := List.all_eq_true.mp ho _ (List.mem_of_getElem? e1)
    cases h2 with
    | lst h3 h4 => rcases hd with ⟨_, h5⟩ | ⟨_, h5⟩ <;> rw [h3] at h5 <;> cases h5
    | dic => exact absurd hx (by simp [isOwnL])
    | dicT => exact absurd hx (by simp [isOwnL])⟩) (known_nil H)
  exact ⟨r0, G0, H0, r, G1, _, P, E1, p, q⟩
/-- x, y = [], e -/
def sParL (i j : Nat) (te : PT0) : PTS := fun P ρ => i < ρ.length ∧ te ρ fun y => P.nx ((ρ.set i (.own (.list []))).set j (.d y))
theorem ds_parL (i j : Nat) {x y : Str} {te : PT0} {pa1 : Pos} {kt k2 pt2} (hc : X.calm = true) (hN : X.N.Nodup) (he : DE X e te) (hi : X.N[i]? = some x := by rfl) (hj : X.N[j]? = some y := by rfl) (hij : i ≠ j := by decide)
    (hx : X.env.scope.names.lookup x = some .local := by rfl) (hy : X.env.scope.names.lookup y = some .local := by rfl)
    (hw : swappedStores [.Tuple [.Name x px, .Name y py] kt pt] (.Tuple [.List [] pa1, e] k2 pt2) X.env = pure (some [x, y]) := by rfl)
    (hs : swapsWithSole [.Tuple [.Name x px, .Name y py] kt pt] (.Tuple [.List [] pa1, e] k2 pt2) pos.line X.env = pure false := by rfl)
    (h1 : starEach [.List [] pa1, e] X.env = (false, eval (.List [] pa1) X.env) :: starEach [e] X.env := by rfl)
    (h2 : starEach [e] X.env = (false, eval e X.env) :: starEach [] X.env := by rfl) :
    DS X (.Assign [.Tuple [.Name x px, .Name y py] kt pt] (.Tuple [.List [] pa1, e] k2 pt2) pos) (sParL i j te) :=
  PS.weak (ps_par hc hN hi hj hij hx hy (pa_cons (pe_lst pa_nil) (pa_cons he pa_nil h2) h1) hw hs) fun Dn σ H ⟨r0, G0, H0, r, G, ρ, P, E, ⟨li, p⟩, q⟩ =>
    ⟨Nat.zero_le _, fun c hc => by
      have W := E.env.st.lay0 (o := .lst []) hc
      have E1 := E.grow W
      refine ⟨r, G, ρ, _, E1.env, p, fun v d G1 H1 p1 W1 R1 => ⟨_, _, rfl, ?_⟩⟩
      have rl := E.env.st.rowNe hc
      have h3 : H1 c = some (.lst []) := W1.h c _ rl upd_same
      have gc : G1 c = none := W1.y c _ upd_same (E.env.st.gh.free hc)
      have E2 := E.takeL (W.trans W1) (.lst h3 .nil) hc gc rl li
      exact q.nx _ _ _ _ _ p1 (E2.setP (i := j) (p := .d d) ⟨_, rfl, R1⟩ fun _ z => nomatch z)⟩
/-- x, y = {}, e: names that are cells, x by pairs -/
def sParT (i j : Nat) (te : PT0) : PTS := fun P ρ => i < ρ.length ∧ te ρ fun y => P.nx ((ρ.set i (.own (kt []))).set j (.d y))
theorem ds_parT (i j : Nat) {x y : Str} {te : PT0} {pa1 : Pos} {kt k2 pt2} (hc : X.calm = true) (hN : X.N.Nodup) (he : DE X e te) (hi : X.N[i]? = some x := by rfl) (hj : X.N[j]? = some y := by rfl)
    (hx : Loc X.env.scope x := by first | exact Or.inl rfl | exact Or.inr rfl) (hy : Loc X.env.scope y := by first | exact Or.inl rfl | exact Or.inr rfl)
    (fx : X.fn x = true ∨ X.env.scope.names.lookup x = some .local := by first | exact .inl rfl | exact .inr rfl) (fy : X.fn y = true ∨ X.env.scope.names.lookup y = some .local := by first | exact .inl rfl | exact .inr rfl)
    (hw : swappedStores [.Tuple [.Name x px, .Name y py] kt pt] (.Tuple [.Dict [] [] pa1, e] k2 pt2) X.env = pure none := by rfl)
    (hs : swapsWithSole [.Tuple [.Name x px, .Name y py] kt pt] (.Tuple [.Dict [] [] pa1, e] k2 pt2) pos.line X.env = pure false := by rfl)
    (h0 : (assignEach [.Tuple [.Name x px, .Name y py] kt pt] X.env).map (·.2) = [assign (.Tuple [.Name x px, .Name y py] kt pt) X.env] := by rfl)
    (h1 : starEach [.Dict [] [] pa1, e] X.env = (false, eval (.Dict [] [] pa1) X.env) :: starEach [e] X.env := by rfl) (h2 : starEach [e] X.env = (false, eval e X.env) :: starEach [] X.env := by rfl)
    (a1 : (assignEach [.Name x px, .Name y py] X.env).map (·.2) = assign (.Name x px) X.env :: (assignEach [.Name y py] X.env).map (·.2) := by rfl) (a2 : (assignEach [.Name y py] X.env).map (·.2) = assign (.Name y py) X.env :: (assignEach [] X.env).map (·.2) := by rfl)
    (a3 : (assignEach [.Name x px, .Name y py] X.env).length = 2 := by rfl) (a4 : (assignEach [.Name x px, .Name y py] X.env).findIdx? (·.1) = none := by rfl) :
    DS X (.Assign [.Tuple [.Name x px, .Name y py] kt pt] (.Tuple [.Dict [] [] pa1, e] k2 pt2) pos) (sParT i j te) :=
  PS.weak (ps_asg (pe_tup (pa_cons pe_dnewT (pa_cons he pa_nil h2) h1)) (pg_tup hc (pgs_cons (pg_name hN hi hx fx) (pgs_cons (pg_name hN hj hy fy) pgs_nil a2) a1) a3 a4) hs hw h0) fun Dn σ H ⟨r0, G0, H0, r, G, ρ, P, E, ⟨li, p⟩, q⟩ =>
    fun c hc => by
      have W := E.env.st.lay0 (o := .dT []) hc
      have E1 := E.grow W
      refine ⟨r, G, ρ, _, E1.env, p, fun v d G1 H1 p1 W1 R1 => ⟨by show 2 ≤ sizeLine; decide, fun f hf => ⟨f, _, rfl, .inl (.inl upd_same), rfl, _, _, rfl, _, _, rfl, rfl, ?_⟩⟩⟩
      have rl := E.env.st.rowNe hc
      have h3 : H1 c = some (.dT []) := W1.h c _ rl upd_same
      have gc : G1 c = none := W1.y c _ upd_same (E.env.st.gh.free hc)
      have W2 := (W1.start (W.start E.env.st)).lay0 (o := .tup [.ref c, v]) hf
      have E2 := E.takeL ((W.trans W1).trans W2) (.dicT (l := ktL []) ((upd_ne (ne_of_none h3 hf)).trans h3) (kt_rep [])) hc gc rl li
      exact q.nx _ _ _ _ _ p1 (E2.setP (i := j) (p := .d d) ⟨_, rfl, R1⟩ fun _ z => nomatch z)
end

/-! ### len(set(..)) -/
theorem perm_of_nodup {α : Type} [DecidableEq α] : ∀ {l m : List α}, l.Nodup → m.Nodup → (∀ x, x ∈ l ↔ x ∈ m) → l.length = m.length
  | l, m, h1, h2, h => by
    have p : l.Perm m := (List.perm_ext_iff_of_nodup h1 h2).mpr h
    exact p.length_eq
def fLenSetP : FC := fun ds P => ∃ ks : List (Int × Int), ds = [.list (ks.map pairI)] ∧ ks.Nodup ∧ ks.length < 64 ∧ P (.int ks.length)
def fLenSetI : FC := fun ds P => ∃ ns : List Int, ds = [.tuple (ns.map .int)] ∧ ns.Nodup ∧ ns.length ≤ 1000 ∧ P (.int ns.length)
def dLenSet (f : FC) (t : PTA) : PT0 := fun ρ P => t ρ fun ds => f ds P
def row2 (k : Int × Int) : List Int := [k.1, k.2]
theorem row2_inj {a b : Int × Int} (h : row2 a = row2 b) : a = b := by
  unfold row2 at h
  have h1 := (List.cons.inj h).1
  have h2 := (List.cons.inj (List.cons.inj h).2).1
  exact Prod.ext h1 h2
section
variable {X : Cx} {pos p p0 p1 p2 : Pos} {a : Expr}
theorem de_lenSetP {t : PTA} (hc : X.calm = true) (hu : X.A.units + 64 < cLine) (hm : X.mg "len" = none) (hm2 : X.mg "set" = none) (ha : DA X [a] t) (hg : Gl X "len" := by rfl) (hg2 : Gl X "set" := by rfl)
    (na : starEach [a] X.env = [(false, eval a X.env)] := by rfl) : DE X (.Call (.Name "len" p) [.Call (.Name "set" p2) [a] [] p1] [] pos) (dLenSet fLenSetP t) := by
  refine ⟨fun pins s σ H Q I ⟨r, G, ρ, P, E, hp, q⟩ => ?_⟩
  refine Call_ (ld_blt I hg hm PySem.boot_len ?_)
  refine PyProof.Rows.callWith_builtin1 (PyProof.Rows.args_cons ?_ rfl) rfl rfl
  refine Call_ (ld_blt I hg2 hm2 PyProof.Rows.boot_set ?_)
  refine PyProof.Rows.callWith_type1 (thn (ha.run p1 pins s σ H (fun vs H' => ∃ ds G', fLenSetP ds P ∧ Grow X.K r G H G' H' ∧ Reps X.K G' vs ds) I ⟨r, G, ρ, _, E, hp, fun vs ds G' H' p' W R => ⟨ds, G', p', W, R⟩⟩) fun us s1 ⟨vs, H1, I1, rv, ds, G1, ⟨ks, e, nd, few, p'⟩, W, R⟩ => ?_) na rfl
  subst e
  have hgrow := W
  obtain ⟨l, ws, ev, hl, hw⟩ : ∃ l ws, vs = [.ref l] ∧ G1 l = some (.lst ws) ∧ Reps X.K G1 ws (ks.map pairI) := by
    cases R with
    | cons h1 h2 =>
      cases h2
      cases h1 with
      | lst e r1 => exact ⟨_, _, rfl, e, r1⟩
  subst ev
  rw [Vals.ref1 rv]
  have hrows : ks.map pairI = (ks.map row2).map rowI := by rw [List.map_map]; rfl
  rw [hrows] at hw
  obtain ⟨bs, rfl, hp2⟩ := reps_rows hw
  have hlen : bs.length = ks.length := by have := Paired.length hp2; simpa using this
  obtain ⟨its, rr, pl, hz⟩ := I1.list (SqL.of (W.gh _ _ hl))
  have eits := refs_out rr
  subst eits
  let L0 : List (Addr × List Int) := bs.zip (ks.map row2)
  have m1 : L0.map (·.1) = bs := List.map_fst_zip (by rw [List.length_map, hlen]; exact Nat.le_refl _)
  have m2 : L0.map (·.2) = ks.map row2 := List.map_snd_zip (by rw [List.length_map, hlen]; exact Nat.le_refl _)
  have hk : ∀ z ∈ L0, SqT X.K H1 z.1 (z.2.map V.int) := fun z hz => by
    obtain ⟨j, hj⟩ := List.mem_iff_getElem?.mp hz
    obtain ⟨j1, j2⟩ := List.getElem?_zip_eq_some.mp hj
    obtain ⟨y, hy, hR⟩ := paired_get hp2 j1
    rw [j2] at hy
    cases hy
    exact .inl (.inl (W.gh _ _ hR))
  refine call_set_tups (P := X.prog) (w := X.w) L0 (I1.ok.hd hc) pl.isList (by
    show bs.map Value.ref = L0.map fun z => Value.ref z.1
    have e0 : (L0.map (·.1)).map Value.ref = bs.map Value.ref := by rw [m1]
    rw [List.map_map] at e0
    exact e0.symm) (fun z hz => I1.isT (hk z hz)) (by show L0.length < 64; rw [← List.length_map (f := (·.1)), m1, hlen]; exact few) (by omega) fun h' tk L es ep t R1 g k => ?_
  refine PyProof.Rows.args_nil ?_
  have I2 : Inv X pins σ H1 { s1 with heap := h', toks := tk } := I1.kept k
  have hsz : L.length = ks.length := by
    have e1 : (L.map (·.2)).length = (ks.map row2).length := by
      refine perm_of_nodup R1.nd ?_ fun y => ⟨fun hy => ?_, fun hy => ?_⟩
      · exact List.Pairwise.map _ (fun a b hab e => hab (row2_inj e)) nd
      · obtain ⟨z, hz, rfl⟩ := List.mem_map.mp hy
        have := List.mem_of_mem_take (g.sub z hz)
        rw [← m2]
        exact List.mem_map.mpr ⟨z, this, rfl⟩
      · rw [← m2] at hy
        obtain ⟨z, hz, rfl⟩ := List.mem_map.mp hy
        exact g.all z (by rw [List.take_length]; exact hz)
    simpa using e1
  obtain ⟨o, ho, hex, hd⟩ := R1.ob
  refine call_len_set ho hex hd (SetTR.fits (s := { s1 with heap := h', toks := tk }) R1) ?_ ?_
  · rw [SetTR.size (s := { s1 with heap := h', toks := tk }) R1]; omega
  · exact ⟨.int (ks.length : Nat), H1, I2.tok _, ⟨_, by rw [SetTR.size (s := { s1 with heap := h', toks := tk }) R1, hsz]⟩, q _ _ _ _ p' hgrow (.int _)⟩
theorem de_lenSetI {t : PTA} (hc : X.calm = true) (hm : X.mg "len" = none) (hm2 : X.mg "set" = none) (ha : DA X [a] t) (hg : Gl X "len" := by rfl) (hg2 : Gl X "set" := by rfl)
    (na : starEach [a] X.env = [(false, eval a X.env)] := by rfl) : DE X (.Call (.Name "len" p) [.Call (.Name "set" p2) [a] [] p1] [] pos) (dLenSet fLenSetI t) := by
  refine ⟨fun pins s σ H Q I ⟨r, G, ρ, P, E, hp, q⟩ => ?_⟩
  refine Call_ (ld_blt I hg hm PySem.boot_len ?_)
  refine PyProof.Rows.callWith_builtin1 (PyProof.Rows.args_cons ?_ rfl) rfl rfl
  refine Call_ (ld_blt I hg2 hm2 PyProof.Rows.boot_set ?_)
  refine PyProof.Rows.callWith_type1 (thn (ha.run p1 pins s σ H (fun vs H' => ∃ ds G', fLenSetI ds P ∧ Grow X.K r G H G' H' ∧ Reps X.K G' vs ds) I ⟨r, G, ρ, _, E, hp, fun vs ds G' H' p' W R => ⟨ds, G', p', W, R⟩⟩) fun us s1 ⟨vs, H1, I1, rv, ds, G1, ⟨ns, e, nd, few, p'⟩, W, R⟩ => ?_) na rfl
  subst e
  obtain ⟨l, ev, hl⟩ : ∃ l, vs = [.ref l] ∧ G1 l = some (.tup (ns.map V.int)) := by
    cases R with
    | cons h1 h2 =>
      cases h2
      cases h1 with
      | tup e r1 =>
        have := r1.ints
        subst this
        exact ⟨_, rfl, e⟩
  subst ev
  rw [Vals.ref1 rv]
  obtain ⟨its, rr, pl, hz⟩ := I1.tuple (same_seqP W.gh hl)
  refine call_set_tupI ns (I1.ok.hd hc) (show s1.heap.IsTuple l its.toArray from pl) (by simpa using rr.ints) (by unfold scanBound; omega) fun h' tk c R1 hcn k => ?_
  refine PyProof.Rows.args_nil ?_
  obtain ⟨o, es, ep, t, ho, hex, hd, _, ndk, mem, _, hf, hn, _, _⟩ := R1
  have I2 : Inv X pins σ H1 { s1 with heap := h', toks := tk } := I1.kept k
  have hsz : es.size = ns.length := by
    have e1 := perm_of_nodup ndk nd fun y => by rw [← mem y]; exact decide_eq_true_iff
    rw [List.length_map, Array.length_toList] at e1
    exact e1
  refine call_len_set ho hex hd hf (by rw [hsz]; omega) ⟨.int (ns.length : Nat), H1, I2.tok _, ⟨_, by rw [hsz]⟩, q _ _ _ _ p' W (.int _)⟩
end
end PD
/-! PDh: what pairs as data tell. -/
namespace PD
open PySem PySem.Spec PyProof.Rows L2
theorem ktL_inj : ∀ {a b : List Pk}, ktL a = ktL b → a = b
  | [], [], _ => rfl
  | [], _ :: _, h => by simp [ktL] at h
  | _ :: _, [], h => by simp [ktL] at h
  | x :: a, y :: b, h => by
    unfold ktL at h
    rw [List.map_cons, List.map_cons] at h
    have h1 := Prod.mk.inj (List.cons.inj h).1
    have h2 : x = y := Prod.ext (pk_inj h1.1) (PyData.int.inj h1.2)
    rw [h2, ktL_inj (List.cons.inj h).2]
theorem kt_inj (a b : List Pk) : (kt a = kt b) = (a = b) := propext ⟨fun h => by
  unfold kt at h
  exact ktL_inj (entD_inj (List.cons.inj (PyData.dict.inj h)).2), fun h => by rw [h]⟩
theorem tup_pairI (a b : Int) (k : Int × Int) : (PyData.tuple [.int a, .int b] = pairI k) = ((a, b) = k) := propext ⟨fun h => by
  unfold pairI at h
  have h1 := PyData.tuple.inj h
  have h2 := (List.cons.inj h1).1
  have h3 := (List.cons.inj (List.cons.inj h1).2).1
  exact Prod.ext (PyData.int.inj h2) (PyData.int.inj h3), fun h => by rw [← h]; rfl⟩
theorem pairI_pairI (a k : Int × Int) : (pairI a = pairI k) = (a = k) := tup_pairI a.1 a.2 k
/-! ### what is put and got -/
def keysP (l : List Pk) : List (Int × Int) := l.map (·.1)
theorem getP_none {l : List Pk} {k : Int × Int} : getP l k = none ↔ k ∉ keysP l := by
  unfold getP keysP
  rw [Option.map_eq_none_iff, List.find?_eq_none]
  simp only [decide_eq_true_eq, List.mem_map, not_exists, not_and]
theorem getP_mem {l : List Pk} {k : Int × Int} {c : Int} (h : getP l k = some c) : (k, c) ∈ l := by
  unfold getP at h
  obtain ⟨e, h1, h2⟩ := Option.map_eq_some_iff.mp h
  have h3 := List.mem_of_find?_eq_some h1
  have h4 := List.find?_some h1
  rw [show (k, c) = e from Prod.ext (of_decide_eq_true h4).symm h2.symm]
  exact h3
theorem getP_cons {e : Pk} {l : List Pk} {k : Int × Int} : getP (e :: l) k = if e.1 = k then some e.2 else getP l k := by
  unfold getP
  rw [List.find?_cons]
  by_cases h : e.1 = k
  · rw [decide_eq_true h, if_pos h]; rfl
  · rw [decide_eq_false h, if_neg h]
theorem mem_getP : ∀ {l : List Pk} {k : Int × Int} {c : Int}, (keysP l).Nodup → (k, c) ∈ l → getP l k = some c
  | e :: l, k, c, nd, h => by
    unfold keysP at nd
    rw [List.map_cons, List.nodup_cons] at nd
    rw [getP_cons]
    rcases List.mem_cons.mp h with h | h
    · subst h; rw [if_pos rfl]
    · have : e.1 ≠ k := fun z => nd.1 (List.mem_map.mpr ⟨_, h, z.symm⟩)
      rw [if_neg this]
      exact mem_getP nd.2 h
theorem any_key {l : List Pk} {k : Int × Int} : (l.any fun e => decide (e.1 = k)) = true ↔ k ∈ keysP l := by
  unfold keysP
  rw [List.any_eq_true, List.mem_map]
  simp only [decide_eq_true_eq]
theorem putP_keys (l : List Pk) (k : Int × Int) (c : Int) : keysP (putP l k c) = if k ∈ keysP l then keysP l else keysP l ++ [k] := by
  unfold putP
  by_cases h : k ∈ keysP l
  · rw [if_pos (any_key.mpr h), if_pos h]
    unfold keysP
    rw [List.map_map]
    refine List.map_congr_left fun e _ => ?_
    show (if e.1 = k then (e.1, c) else e).1 = e.1
    split <;> rfl
  · rw [if_neg (fun z => h (any_key.mp z)), if_neg h]
    unfold keysP
    rw [List.map_append]
    rfl
theorem putP_nodup {l : List Pk} {k : Int × Int} {c : Int} (h : (keysP l).Nodup) : (keysP (putP l k c)).Nodup := by
  rw [putP_keys]
  split
  · exact h
  · next hk => exact List.nodup_append.mpr ⟨h, by simp, fun a ha b hb => by rw [List.mem_singleton] at hb; subst hb; exact fun z => hk (z ▸ ha)⟩
theorem putP_len (l : List Pk) (k : Int × Int) (c : Int) : (putP l k c).length ≤ l.length + 1 := by
  unfold putP
  split <;> simp
theorem putP_mem {l : List Pk} {k : Int × Int} {c : Int} {e : Pk} (nd : (keysP l).Nodup) : e ∈ putP l k c ↔ e = (k, c) ∨ (e ∈ l ∧ e.1 ≠ k) := by
  unfold putP
  by_cases h : k ∈ keysP l
  · rw [if_pos (any_key.mpr h)]
    rw [List.mem_map]
    constructor
    · rintro ⟨e0, h0, rfl⟩
      by_cases q : e0.1 = k
      · rw [if_pos q, q]; exact .inl rfl
      · rw [if_neg q]; exact .inr ⟨h0, q⟩
    · rintro (rfl | ⟨h1, h2⟩)
      · obtain ⟨e0, h0, h1⟩ := List.mem_map.mp h
        exact ⟨e0, h0, by rw [if_pos h1, h1]⟩
      · exact ⟨e, h1, if_neg h2⟩
  · rw [if_neg (fun z => h (any_key.mp z)), List.mem_append, List.mem_singleton]
    constructor
    · rintro (h1 | h1)
      · exact .inr ⟨h1, fun z => h (List.mem_map.mpr ⟨e, h1, z⟩)⟩
      · exact .inl h1
    · rintro (h1 | ⟨h1, _⟩)
      · exact .inr h1
      · exact .inl h1
/-- a dict filled from pairs whose keys differ is the list of them -/
theorem putP_fill : ∀ (es acc : List Pk), (keysP (acc ++ es)).Nodup → es.foldl (fun l e => putP l e.1 e.2) acc = acc ++ es
  | [], acc, _ => by simp
  | e :: es, acc, nd => by
    have h : e.1 ∉ keysP acc := by
      unfold keysP at nd ⊢
      rw [List.map_append, List.map_cons, List.nodup_append] at nd
      intro z
      exact nd.2.2 _ z _ (by simp) rfl
    rw [List.foldl_cons]
    have e1 : putP acc e.1 e.2 = acc ++ [e] := by
      unfold putP
      rw [if_neg fun z => h (any_key.mp z)]
    rw [e1, putP_fill es (acc ++ [e]) (by simpa using nd)]
    simp
/-! ### rows in their order -/
theorem rk_inj {M B : Int} {a b : List Int} (hl : a.length = b.length) (ha : Bm M B a) (hb : Bm M B b) (h1 : rk M B a ≤ rk M B b) (h2 : rk M B b ≤ rk M B a) : a = b := by
  induction a generalizing b with
  | nil => cases b with
    | nil => rfl
    | cons => simp at hl
  | cons x a ih => cases b with
    | nil => simp at hl
    | cons y b =>
      have hl2 : a.length = b.length := by simpa using hl
      have hl3 : (a.map (· + M)).length = (b.map (· + M)).length := by simpa using hl2
      rcases Int.lt_trichotomy x y with h | h | h
      · have : rk M B (x :: a) < rk M B (y :: b) := TS.code_lt hl3 ha.tl hb.tl (by show x + M < y + M; omega)
        omega
      · subst h
        have s1 : rk M B (x :: a) < rk M B (x :: b) ↔ rk M B a < rk M B b := TS.code_same hl3
        have s2 : rk M B (x :: b) < rk M B (x :: a) ↔ rk M B b < rk M B a := TS.code_same hl3.symm
        rw [ih hl2 ha.tl hb.tl (by have := mt s2.mpr (by omega); omega) (by have := mt s1.mpr (by omega); omega)]
      · have : rk M B (y :: b) < rk M B (x :: a) := TS.code_lt hl3.symm hb.tl ha.tl (by show y + M < x + M; omega)
        omega
def rowP3 (e : Pk) : List Int := [e.1.1, e.1.2, e.2]
theorem rowP3_inj {a b : Pk} (h : rowP3 a = rowP3 b) : a = b := by
  unfold rowP3 at h
  have h1 := (List.cons.inj h).1
  have h2 := (List.cons.inj (List.cons.inj h).2).1
  have h3 := (List.cons.inj (List.cons.inj (List.cons.inj h).2).2).1
  exact Prod.ext (Prod.ext h1 h2) h3
theorem rowI_rowP3 (e : Pk) : rowI (rowP3 e) = .tuple [.int e.1.1, .int e.1.2, .int e.2] := rfl
/-- a turned row of mapped things is the map of turned things -/
theorem perm_map {α β : Type} (f : α → β) : ∀ {l : List α} {m : List β}, m.Perm (l.map f) → ∃ l' : List α, l'.Perm l ∧ m = l'.map f := by
  intro l m h
  generalize e : l.map f = n at h
  induction h generalizing l with
  | nil => cases l with
    | nil => exact ⟨[], .refl _, rfl⟩
    | cons => simp at e
  | cons a _ ih => cases l with
    | nil => simp at e
    | cons x l =>
      rw [List.map_cons] at e
      obtain ⟨l', h1, h2⟩ := ih (List.cons.inj e).2
      exact ⟨x :: l', h1.cons _, by rw [List.map_cons, h2, (List.cons.inj e).1]⟩
  | swap a b t => cases l with
    | nil => simp at e
    | cons x l => cases l with
      | nil => simp at e
      | cons y l =>
        rw [List.map_cons, List.map_cons] at e
        have e1 := List.cons.inj e
        have e2 := List.cons.inj e1.2
        exact ⟨y :: x :: l, .swap .., by rw [List.map_cons, List.map_cons, e1.1, e2.1, e2.2]⟩
  | trans _ _ ih1 ih2 =>
    obtain ⟨l1, h1, h2⟩ := ih2 e
    obtain ⟨l2, h3, h4⟩ := ih1 h2.symm
    exact ⟨l2, h3.trans h1, h4⟩
end PD
/-! PXa: exceptions in the data layer, lambdas handed to a def that tells what is raised. -/
namespace PD
open PySem PySem.Spec PyProof.Rows L2

/-- an exception by its class and its own fields -/
structure Xn where
  c : Addr
  fs : Option (List (Str × Dt)) := none
def XnR (K : Fg) (G H : Hp) (x : Xn) (cls : Value) (d : Option Addr) : Prop := cls = .ref x.c ∧ match x.fs with
  | none => d = none
  | some l => ∃ a vs, d = some a ∧ H a = some (.xd vs) ∧ RepF K G vs l
abbrev PFX := List PV → (Dt → Prop) → (Xn → Prop) → Prop
def liftX (K : Fg) (F : PFX) : Sp := fun vs H Q E => ∃ (r : Option Addr) (G : Hp) (as : List PV) (P : Dt → Prop) (R : Xn → Prop), Start K r G H ∧ Args K r G vs as ∧ F as P R ∧
  (∀ v d G' H', P d → Grow K r G H G' H' → Rep K G' v d → Q v H') ∧ ∀ x cls d G' H', R x → Grow K r G H G' H' → XnR K G' H' x cls d → E cls d H'
abbrev PTX := PEnds → (Xn → Prop) → List PV → Prop
structure PostX (K : Fg) (r0 : Option Addr) (G0 H0 : Hp) (R : Xn → Prop) (W : WX) : Prop where
  ex : ∀ x cls d σ G H, R x → Grow K r0 G0 H0 G H → XnR K G H x cls d → W cls d σ H
def liftSX (K : Fg) (W : WX) (t : PTX) : TS := fun Dn σ H => ∃ (r0 : Option Addr) (G0 H0 : Hp) (r : Option Addr) (G : Hp) (ρ : List PV) (P : PEnds) (R : Xn → Prop), EnvS K r0 G0 H0 r G H σ ρ ∧ t P R ρ ∧ Post K r0 G0 H0 P Dn ∧ PostX K r0 G0 H0 R W
def DSX (X : Cx) (W : WX) (st : Stmt) (t : PTX) : Prop := PS X st (liftSX X.K W t)
def DSsX (X : Cx) (W : WX) (st : List Stmt) (t : PTX) : Prop := PSs X st (liftSX X.K W t)
/-- an expression that may raise -/
abbrev PT2 := List PV → (Dt → Prop) → (Xn → Prop) → Prop
def liftEX (K : Fg) (E : XK) (t : PT2) : TE := fun σ H Q => ∃ (r : Option Addr) (G : Hp) (ρ : List PV) (P : Dt → Prop) (R : Xn → Prop), EnvR K r G H σ ρ ∧ t ρ P R ∧
  (∀ v d G' H', P d → Grow K r G H G' H' → Rep K G' v d → Q v H') ∧ ∀ x cls d G' H', R x → Grow K r G H G' H' → XnR K G' H' x cls d → E cls d H'
section
variable {X : Cx} {W : WX} {st : Stmt} {rest body orelse : List Stmt} {t u : PTX} {t0 : PTS} {e c : Expr} {es : List Expr} {te : PT0} {tx : PT2} {pos p : Pos}
def xOf (t : PTS) : PTX := fun P _ ρ => t P ρ
theorem dsx_of (h : DS X st t0) : DSX X W st (xOf t0) := PS.weak h fun Dn σ H ⟨r0, G0, H0, r, G, ρ, P, R, E, p, q, _⟩ => ⟨r0, G0, H0, r, G, ρ, P, E, p, q⟩
theorem dssx_of {sts : List Stmt} (h : DSs X sts t0) : DSsX X W sts (xOf t0) := PSs.weak h fun Dn σ H ⟨r0, G0, H0, r, G, ρ, P, R, E, p, q, _⟩ => ⟨r0, G0, H0, r, G, ρ, P, E, p, q⟩
def xSeq (t u : PTX) : PTX := fun P R ρ => t { P with nx := u P R } R ρ
theorem dssx_cons (h1 : DSX X W st t) (h2 : DSsX X W rest u) : DSsX X W (st :: rest) (xSeq t u) := PSs.weak (pss_cons h1 h2) fun Dn σ H ⟨r0, G0, H0, r, G, ρ, P, R, E, p, q, qx⟩ =>
  ⟨r0, G0, H0, r, G, ρ, _, R, E, p, ⟨fun r' σ' ρ' G' H' p' E' => ⟨r0, G0, H0, r', G', ρ', P, R, E', p', q, qx⟩, q.bk, q.ct, q.rt⟩, qx⟩
theorem dssx_one (h1 : DSX X W st t) : DSsX X W [st] t := pss_one h1
def xNext : PTX := fun P _ ρ => P.nx ρ
theorem dssx_nil : DSsX X W [] xNext := PSs.weak pss_nil fun Dn σ H ⟨r0, G0, H0, r, G, ρ, P, R, E, p, q, _⟩ => q.nx _ _ _ _ _ p E
def xIf (c : PTT) (t u : PTX) : PTX := fun P R ρ => c ρ fun k => if k = true then t P R ρ else u P R ρ
theorem dsx_if {tc : PTT} (hc : DT X c tc) (ha : DSsX X W body t) (hb : DSsX X W orelse u) : DSX X W (.If c body orelse pos) (xIf tc t u) := PS.weak (ps_if hc ha hb) fun Dn σ H ⟨r0, G0, H0, r, G, ρ, P, R, E, p, q, qx⟩ =>
  ⟨r, G, ρ, _, E.env, p, fun k G' H' p' W' => by
    cases k with
    | true => exact ⟨r0, G0, H0, r, G', ρ, P, R, E.grow W', p', q, qx⟩
    | false => exact ⟨r0, G0, H0, r, G', ρ, P, R, E.grow W', p', q, qx⟩⟩
/-- raise C('..') -/
def xRaise (C : Addr) : PTX := fun _ R _ => R ⟨C, none⟩
theorem dsx_raise {C : Addr} (hc : X.calm = true) (tk : Takes X W) (he : PMk X e (fun _ H Q => Q (.ref C) none H)) : DSX X W (.Raise (some e) none pos) (xRaise C) :=
  PS.weak (ps_raise hc tk he) fun Dn σ H ⟨r0, G0, H0, r, G, ρ, P, R, E, p, q, qx⟩ => qx.ex ⟨C, none⟩ _ _ σ G H p E.gr ⟨rfl, rfl⟩
/-- raise C(e), e any data -/
def xRaise1 (C : Addr) (te : PT0) : PTX := fun _ R ρ => te ρ fun _ => R ⟨C, none⟩
theorem dsx_raise1 {C : Addr} (hc : X.calm = true) (tk : Takes X W) (he : PMk X e (fun σ H Q => liftE X.K te σ H fun _ H1 => Q (.ref C) none H1)) : DSX X W (.Raise (some e) none pos) (xRaise1 C te) :=
  PS.weak (ps_raise hc tk he) fun Dn σ H ⟨r0, G0, H0, r, G, ρ, P, R, E, p, q, qx⟩ => ⟨r, G, ρ, _, E.env, p, fun v d G' H' p' W' _ => qx.ex ⟨C, none⟩ _ _ σ G' H' p' (E.grown W') ⟨rfl, rfl⟩⟩
def DEX (X : Cx) (W : WX) (e : Expr) (t : PT2) : Prop := PE X e (fun σ H Q => liftEX X.K (WE W σ) t σ H Q)
def xeOf (t : PT0) : PT2 := fun ρ P _ => t ρ P
theorem dex_of (h : DE X e te) : DEX X W e (xeOf te) := PE.weak h fun σ H Q ⟨r, G, ρ, P, R, E, p, q, _⟩ => ⟨r, G, ρ, P, E, p, q⟩
/-- f(..) that may raise -/
def xCall (F : PFX) (t : PTAs) : PT2 := fun ρ P R => t ρ fun as => F as P R
theorem dex_call {x : Str} {k j : Nat} {f : Addr} {fd : FuncData} {ps : List Str} {F : PFX} {ta : PTAs} (tk : Takes X W) (D : Df X.K X.mg x st ps f fd) (Fk : FnOk X.prog X.w X.K X.mg X.base (L2.CX X.prog X.w) k f fd ps (liftX X.K F)) (hr : Room j X.A) (ha : DAs X (e :: es) ta) (hj : k ≤ j := by decide)
    (hg : Gl X x := by rfl) (hdb : (x == ("__debug__" : Str)) = false := by decide) (he : starEach (e :: es) X.env = (false, eval e X.env) :: starEach es X.env := by rfl) (hpl : (backTo pos (starEach es X.env)).any (·.1) = false := by rfl) :
    DEX X W (.Call (.Name x p) (e :: es) [] pos) (xCall F ta) :=
  PE.weak (pe_callS Fk (hr.mono hj) hg D.gl D.fn.kp D.bd (fun σ => passAt tk σ) ha hdb he hpl) fun σ H Q ⟨r, G, ρ, P, R, E, p, q, qx⟩ => ⟨r, G, ρ, _, E, p, fun vs as G1 H1 p1 W1 R1 =>
    ⟨r, G1, as, P, R, W1.start E.st, R1, p1, fun v d G' H' p2 W2 R2 => q v d G' H' p2 (W1.trans W2) R2, fun x cls d G' H' p2 W2 R2 => qx x cls d G' H' p2 (W1.trans W2) R2⟩⟩
def xDrop (t : PT2) : PTX := fun P R ρ => t ρ (fun _ => P.nx ρ) R
theorem dsx_expr (he : DEX X W e tx) (hs : swapsWith e none pos.line X.env = pure false := by rfl) : DSX X W (.Expr e pos) (xDrop tx) := PS.weak (ps_expr he hs) fun Dn σ H ⟨r0, G0, H0, r, G, ρ, P, R, E, p, q, qx⟩ =>
  ⟨r, G, ρ, _, R, E.env, p, fun v d G' H' p' W' _ => q.nx _ _ _ _ _ p' (E.grow W'), fun x cls d G' H' p' W' X' => qx.ex x cls d σ G' H' p' (E.grown W') X'⟩
def xSet (i : Nat) (t : PT2) : PTX := fun P R ρ => t ρ (fun d => P.nx (ρ.set i (.d d))) R
theorem dsx_set (i : Nat) {x : Str} {pos' : Pos} (hN : X.N.Nodup) (he : DEX X W e tx) (hi : X.N[i]? = some x := by rfl) (hx : Loc X.env.scope x := by first | exact Or.inl rfl | exact Or.inr rfl) (hs : swapsWith e (some (.Name x pos')) pos.line X.env = pure false := by rfl) (hf : X.fn x = true ∨ X.env.scope.names.lookup x = some .local := by first | exact .inl rfl | exact .inr rfl) :
    DSX X W (.Assign [.Name x pos'] e pos) (xSet i tx) := PS.weak (ps_set hN hi hx he hs hf) fun Dn σ H ⟨r0, G0, H0, r, G, ρ, P, R, E, p, q, qx⟩ =>
  ⟨r, G, ρ, _, R, E.env, p, fun v x G' H' p' W' R' => q.nx _ _ _ _ _ p' ((E.grow W').sets (js := [i]) ⟨fun k hk => by
    have : i ≠ k := fun z => hk (by simp [z])
    exact ⟨List.getElem?_set_ne this, List.getElem?_set_ne this⟩, by simp, fun k y hk => by
    have : k = i := by simpa using hk
    subst this
    rw [List.getElem?_set]
    simp only [if_true]
    split <;> simp, fun k C a fs hk => by
    have : k = i := by simpa using hk
    subst this
    rw [List.getElem?_set]
    simp only [if_true]
    split <;> simp⟩ ((E.env.grow W').set R')), fun x cls d G' H' p' W' X' => qx.ex x cls d σ G' H' p' (E.grown W') X'⟩
def xRet (t : PT2) : PTX := fun P R ρ => t ρ P.rt R
theorem dsx_ret (he : DEX X W e tx) : DSX X W (.Return (some e) pos) (xRet tx) := PS.weak (ps_ret he) fun Dn σ H ⟨r0, G0, H0, r, G, ρ, P, R, E, p, q, qx⟩ =>
  ⟨r, G, ρ, _, R, E.env, p, fun v d G' H' p' W' R' => q.rt v d G' H' p' (E.grown W') R', fun x cls d G' H' p' W' X' => qx.ex x cls d σ G' H' p' (E.grown W') X'⟩
end
section
variable {P : Program} {w : World} {K : Fg} {mg : Str → Option Value} {base : Heap}
/-- a def that may raise -/
theorem fd_okX {x qual : Str} {st : Stmt} {f : Addr} {fd : FuncData} {N ps : List Str} {k : Nat} (F : PFX) (Fu : Fun K x qual st f fd) (S : FnScope N ps (defScope st)) (len : ∀ as P R, F as P R → as.length = ps.length)
    (body : ∀ (cdv : Value) (A : Around) (outer : List Env) (s : Shared) (H : Hp) (E : XK), Room k (A.deeper (envOfC qual (defScope st) s.heap.objs.size f cdv)) → Takes (cxOf (L2.CX P w) P w K mg base N qual (defScope st) f cdv A outer s H E) (fun cls d _ H' => E cls d H') →
      ∃ t, DSsX (cxOf (L2.CX P w) P w K mg base N qual (defScope st) f cdv A outer s H E) (fun cls d _ H' => E cls d H') (defBody st) t ∧ ∀ as Q R, F as Q R → t { nx := fun _ => Q .none, rt := Q } R (startP N as)) : FnOk P w K mg base (L2.CX P w) (k + 1) f fd ps (liftX K F) := by
  refine Fu.okX S (fun vs H Q E ⟨r, G, as, P, R, _, A, p, _⟩ => (Paired.length A).trans (len as P R p)) fun cdv A outer s H vs Q E hr ⟨r, G, as, P, R, S1, A1, p, q, qx⟩ => ?_
  obtain ⟨t, ht, hp⟩ := body cdv A outer s H E hr (takes_of rfl rfl rfl rfl)
  exact ⟨liftSX K _ t, ht, r, G, H, r, G, startP N as, _, R, env_start S1 A1, hp as P R p, ⟨fun r' σ' ρ' G' H' p' E' => q .non .none G' H' p' E'.gr .non, fun _ _ _ _ _ z => z.elim, fun _ _ _ _ _ z => z.elim, fun v d G' H' p' W R => q v d G' H' p' W R⟩, ⟨fun x cls d σ G' H' p' W X' => qx x cls d G' H' p' W X'⟩⟩
end
end PD
/-! PXb: _law_error(lambda: ..) in the data layer. -/
namespace PD
open PySem PySem.Spec PyProof.Rows L2

abbrev LamN (X : Cx) : Str := X.env.qual ++ "<lambda>"
/-- what the making of a lambda does to what is known: nothing, or one more code object in the table -/
def Made (H : Hp) (P c' : Addr) (q : Str) (H1 : Hp) : Prop := H1 = H ∨ ∃ ps more : Array Value, H P = some (.tbl ps) ∧ H c' = none ∧ H1 = upd (upd H P (.tbl (ps ++ more))) c' (LamX.CodeO c' q)
section
variable {X : Cx} {pins : List (Addr × Obj)} {σ : L2.St} {H : Hp} {s : Shared}
theorem stk_new (I : Inv X pins σ H s) {f : Addr} (hf : s.heap.objs.size ≤ f) : f ∉ frs X.stack := by
  intro z
  have hl := I.lt
  rcases List.mem_cons.mp (I.stkSub f z) with e | e
  · subst e; exact absurd hl (Nat.not_lt.mpr hf)
  · exact I.nofs hf e
theorem tab_more {P c' : Addr} {q : Str} {ps : Array Value} {pos : Pos} (hP : H P = some (.tbl ps)) (nC : H c' = none) (ht : TriplesOk ps.toList)
    (ha : ∀ (p : Pos) (cv : Value), codeAmong p ps.toList = some cv → ∃ d, cv = .ref d ∧ H d = some (LamX.CodeO d q)) :
    LamX.TabS (upd (upd H P (.tbl (ps ++ #[rawInt pos.line, rawInt pos.col, .ref c']))) c' (LamX.CodeO c' q)) P q := by
  have n1 : P ≠ c' := fun z => by subst z; rw [hP] at nC; cases nC
  have el : (ps ++ #[rawInt pos.line, rawInt pos.col, Value.ref c']).toList = ps.toList ++ [rawInt pos.line, rawInt pos.col, .ref c'] := Array.toList_append
  refine ⟨ps ++ #[rawInt pos.line, rawInt pos.col, .ref c'], (upd_ne n1).trans upd_same, ?_, ?_⟩
  · rw [el]
    exact PySem.TriplesOk_snoc _ _ _ _ ht
  · intro p cv h
    rw [el] at h
    cases LamX.among_app ps.toList ht h with
    | inr z => exact ⟨c', z, upd_same⟩
    | inl z =>
      obtain ⟨d, e1, e2⟩ := ha p cv z
      have d1 : d ≠ c' := fun y => by subst y; rw [nC] at e2; cases e2
      have d2 : d ≠ P := fun y => by subst y; rw [hP] at e2; unfold LamX.CodeO at e2; cases e2
      exact ⟨d, e1, (upd_ne d1).trans ((upd_ne d2).trans e2)⟩
theorem lam_mk {c P : Addr} {q : Str} {params : Arguments} {body : Expr} {scope : Scope} {pos : Pos} {E Q : Value → Shared → Prop} (I : Inv X pins σ H s) (TB : LamX.TabB X.base X.mg c P) (hcode : X.env.code = .ref c) (hq : LamN X = q) (hT : LamX.TabS H P q)
    (hdef : defaultsOf params X.env = ([], [])) (hfree : ∀ y ∈ scope.names, y.2 = .free → ∃ d, X.env.cells.lookup y.1 = some d)
    (h : ∀ (f c' : Addr) (pm ctv : Value) (H1 : Hp) (s1 : Shared), Inv X pins σ H1 s1 → Made H P c' q H1 → LamX.TabS H1 P q → s1.heap.get? f = some (PySem.W.kla_obj "<lambda>" (LamN X) params body scope (cloFrom X.env.cells scope.names []) pm c' ctv) →
      H1 f = none → f ∉ frs X.stack → H1 c' = some (LamX.CodeO c' q) → Q (.ref f) s1) : wpAny (model X.prog X.w) X.A (eval (.Lambda params body scope pos) X.env) Q E s := by
  subst hq
  obtain ⟨ps, hP, ht, ha⟩ := id hT
  have inP := I.hok P _ hP
  have blt := TB.bm.keeps I.bk
  have cod := TB.code.keeps I.bk
  refine PySem.W.kla_eval hdef ?_
  cases hc : codeAmong pos ps.toList with
  | some cv =>
    obtain ⟨c', rfl, hco⟩ := ha pos cv hc
    refine PySem.W.kla_makeFunctionHit (mg := X.mg) (c := c) (P := P) (ps := ps) (closure_ok hfree) I.ok.glob (I.mod.glob.keeps I.bk) hcode cod inP ht hc blt fun ctv hp tk hx hsz => ?_
    refine h hp.objs.size c' ((X.mg "__name__").getD .none) ctv H _ (I.kept (h' := hp.push _) (t' := tk) ?_) (.inl rfl) hT (Heap.get?_push_size _ rfl) (I.hok.fresh hsz) (stk_new I hsz) hco
    exact fun b o e => Heap.get?_push_of_some _ (hx b o e)
  | none =>
    refine PySem.W.kla_makeFunction (mg := X.mg) (c := c) (P := P) (ps := ps) (closure_ok hfree) I.ok.glob (I.mod.glob.keeps I.bk) hcode cod inP ht hc TB.gP blt fun c' ctv hp tk hx hge hlt hrec htb => ?_
    obtain ⟨d, oc, vs, t, e2, hoc, hd, hv⟩ := hrec
    cases e2
    have nC : H c' = none := I.hok.fresh hge
    have big : s.heap.objs.size ≤ hp.objs.size := by omega
    have J := LamX.inv_table (t' := tk) (q := LamN X) (more := #[rawInt pos.line, rawInt pos.col, .ref c']) (h' := hp.push (PySem.W.kla_obj "<lambda>" (LamN X) params body scope (cloFrom X.env.cells scope.names []) ((X.mg "__name__").getD .none) c' ctv)) I hP
      (fun b o nb e => Heap.get?_push_of_some _ (hx b o nb e)) (Heap.get?_push_of_some _ htb) hge ⟨oc, vs, t, Heap.get?_push_of_some _ hoc, hd, hv⟩
    have nf : ∀ b : Addr, H b ≠ none → hp.objs.size ≠ b := fun b z y => z (y ▸ I.hok.fresh big)
    refine h hp.objs.size c' ((X.mg "__name__").getD .none) ctv _ _ J (.inr ⟨ps, _, hP, nC, rfl⟩) (tab_more (pos := pos) hP nC ht ha) (Heap.get?_push_size _ rfl) ?_ (stk_new I big) upd_same
    rw [upd_ne (Nat.ne_of_gt hlt), upd_ne (nf P (by rw [hP]; simp))]
    exact I.hok.fresh big
end
section
variable {K : Fg} {r : Option Addr} {G H H1 : Hp} {P c' : Addr}
theorem Made.keep {q : Str} (m : Made H P c' q H1) {b : Addr} {o : HO} (n : NT o) (e : H b = some o) : H1 b = some o := by
  rcases m with rfl | ⟨ps, more, hP, nC, rfl⟩
  · exact e
  · have n1 : b ≠ c' := fun z => by subst z; rw [nC] at e; cases e
    have n2 : b ≠ P := fun z => by subst z; rw [hP] at e; cases e; exact n _ rfl
    exact (upd_ne n1).trans ((upd_ne n2).trans e)
theorem Made.go (m : Made H P c' (nmOf K P) H1) (hT : LamX.TabS H1 P (nmOf K P)) : TbGo K H H1 := by
  have kx : ∀ b φ, H b = some (.ext φ) → H1 b = some (.ext φ) := fun b φ e => m.keep (by intro _ z; cases z) e
  rcases m with rfl | ⟨ps, more, hP, nC, rfl⟩
  · exact .refl _
  refine ⟨fun P' t => ?_, fun P' ps' h => ?_, kx⟩
  · by_cases z : P' = P
    · subst z; exact hT
    obtain ⟨ps', h1, h2, h3⟩ := t
    have n1 : P' ≠ c' := fun y => by subst y; rw [nC] at h1; cases h1
    refine ⟨ps', (upd_ne n1).trans ((upd_ne z).trans h1), h2, fun p cv hc => ?_⟩
    obtain ⟨d, e1, e2⟩ := h3 p cv hc
    have d1 : d ≠ c' := fun y => by subst y; rw [nC] at e2; cases e2
    have d2 : d ≠ P := fun y => by subst y; rw [hP] at e2; unfold LamX.CodeO at e2; cases e2
    exact ⟨d, e1, (upd_ne d1).trans ((upd_ne d2).trans e2)⟩
  · have n1 : P' ≠ c' := fun y => by subst y; rw [nC] at h; cases h
    by_cases z : P' = P
    · subst z; exact ⟨_, (upd_ne n1).trans upd_same⟩
    · exact ⟨ps', (upd_ne n1).trans ((upd_ne z).trans h)⟩
theorem Made.grow (m : Made H P c' (nmOf K P) H1) (hT : LamX.TabS H1 P (nmOf K P)) (S : Start K r G H) : Grow K r G H G H1 := by
  refine ⟨Same.refl _, fun b o _ n e => m.keep n e, fun b o e => ?_, fun _ _ _ e => e, fun a e => ?_, m.go hT, fun _ _ e => e⟩
  · exact m.keep (fun ps z => S.nt b ps (z ▸ e)) (S.gh b o e)
  · have q := (S.row a e).2
    obtain ⟨_, _, _, _, _, h1, _⟩ := id q
    exact q.at (Same.refl _) ((m.keep (by intro _ z; cases z) h1).trans h1.symm)
end
/-! ### _law_error -/
/-- what the clauses make of an exception of the class at c -/
def caughtBy (K : Fg) : List (Addr × Str) → Addr → Option Str
  | [], _ => none
  | (C, s) :: l, c => match PySem.W.exmOne K (.ref c) (.ref C) with
    | some true => some s
    | some false => caughtBy K l c
    | none => none
abbrev clauseW (l : List (Addr × Str)) : List (Value × (Addr → Value → Option Addr → TS)) := l.map fun p => (.ref p.1, fun _ _ _ => tRet (tC (.str p.2)))
/-- a def: try: a() / except X: return 'X' .. / return '' -/
structure ErrDef (X : Cx) (Ng : List Str) (x : Str) (sg : Scope) (g : Addr) (cdg : Value) (bg : List Stmt) (a : Str) (l : List (Addr × Str)) : Prop where
  text : ∃ (p1 p2 p3 p8 p9 p10 : Pos) (j : Nat) (h0 : ExceptHandler) (hs : List ExceptHandler), bg = [.Try [.Expr (.Call (.Name a p1) [] [] p2) p3] (h0 :: hs) [] [] p8, .Return (some (.Constant (.str "") j p9)) p10] ∧
    ∀ (s : Shared) (H : Hp), HdsOk (cxOf C8.CX0 X.prog X.w X.K X.mg X.base Ng x sg g cdg X.A X.stack s H C8.E0).nox (h0 :: hs) (clauseW l)
theorem errs_many {K : Fg} {D : Ends} {Wout : WX} : ∀ (l : List (Addr × Str)) (c : Addr) (s : Str) (d : Option Addr) (σ : L2.St) (H : Hp), caughtBy K l c = some s → D.rt (.str s) H → wMany K Wout D (clauseW l) (.ref c) d σ H
  | [], _, _, _, _, _, e, _ => by cases e
  | (C, s') :: l, c, s, d, σ, H, e, q => by
    unfold caughtBy at e
    cases hx : PySem.W.exmOne K (.ref c) (.ref C) with
    | none => rw [hx] at e; cases e
    | some b =>
      rw [hx] at e
      refine ⟨b, hx, fun hb _ _ => ?_, fun hb => ?_⟩
      · subst hb; cases e; exact q
      · subst hb; exact errs_many l c s d σ H e q
/-- what is made of a lambda's reading -/
def TTe (K : Fg) (l : List (Addr × Str)) : (XK → Hp → VK → Prop) → Hp → VK → Prop := fun tl H Q => tl (fun cls _ H' => ∃ c s, cls = .ref c ∧ caughtBy K l c = some s ∧ Q (.str s) H') H fun _ H' => Q (.str "") H'
theorem err_gives {X : Cx} {Ng : List Str} {x a q : Str} {sg : Scope} {g : Addr} {cdg : Value} {bg : List Stmt} {l : List (Addr × Str)} (Ed : ErrDef X Ng x sg g cdg bg a l) (h0 : ∀ f : Addr, (L2.start Ng [V.ref f])[0]? = some (some (V.ref f))) : LamX.GivesTo X Ng x sg g cdg bg a q (TTe X.K l) := by
  intro f c' s H Q tl act hc h
  obtain ⟨p1, p2, p3, p8, p9, p10, j, hd, hs, rfl, hh⟩ := Ed.text
  refine ⟨_, pss_cons (ps_try_many (X := (cxOf C8.CX0 X.prog X.w X.K X.mg X.base Ng x sg g cdg X.A X.stack s H C8.E0).nox) (l := clauseW l) (Wout := fun _ _ _ _ => False)
    (tb := fun W D σ H => ∃ Ec : XK, (∀ cls d σ1 H1, Ec cls d H1 → W cls d σ1 H1) ∧ σ[0]? = some (some (.ref f)) ∧ H c' = some (LamX.CodeO c' q) ∧ tl Ec H fun _ H1 => D.nx σ H1) rfl rfl L2.takes0 (fun W pn xe tk _ => ?_) (hh s H)) (pss_one (ps_ret pe_str)), ?_⟩
  · refine ⟨fun pins s1 σ H1 D I ⟨Ec, hW, g1, g2, g3⟩ => ?_⟩
    exact (pss_one (ps_expr (pos := p3) (act W pn xe Ec p1 p2 tk hW) rfl)).run pins s1 σ H1 D I ⟨g1, g2, g3⟩
  · refine ⟨_, ?_, h0 f, hc, h⟩
    rintro cls d σ1 H1 ⟨c, s1, rfl, e1, e2⟩
    exact errs_many l c s1 d σ1 H1 e1 e2
/-- a slot that says of a table what it holds -/
def tabG (P : Addr) : Fg → Hp → Hp → Option V → Prop := fun K _ H _ => LamX.TabS H P (nmOf K P)
/-- _law_error(lambda: e) -/
def dErr (K : Fg) (l : List (Addr × Str)) (i : Nat) (P : Addr) (tx : PT2) : PT0 := fun ρ Q => ρ[i]? = some (.fz (tabG P)) ∧ tx ρ (fun _ => Q (.str "")) fun x => ∃ s, caughtBy K l x.c = some s ∧ Q (.str s)
section
variable {X : Cx}
/-- _law_error(lambda: e), whatever the reading of e -/
theorem pe_err {x a : Str} {g c P : Addr} {k : Nat} {l : List (Addr × Str)} {st : Stmt} {fd : FuncData} {Ng : List Str} {params : Arguments} {body : Expr} {scope : Scope} {tb : XK → TE} {p lpos pos : Pos}
    (D : Df X.K X.mg x st [a] g fd) (Ed : ∀ cdg : Value, ErrDef X Ng x (defScope st) g cdg (defBody st) a l) (Sg : FnScope Ng [a] (defScope st)) (TB : LamX.TabB X.base X.mg c P) (hcode : X.env.code = .ref c) (hq : LamN X = nmOf X.K P) (hr : Room (k + 2) X.A)
    (hbody : ∀ (A : Around) (outer : List Env) (s : Shared) (H : Hp) (E : XK) (f c' : Addr), Room k (A.deeper (LamX.lamEnv X scope s.heap.objs.size f c')) → PE (LamX.lamCx X A outer s H E scope f c') body (tb E))
    (L : LamX.LamS X.env.scope scope) (hg : Gl X x := by rfl) (hdef : defaultsOf params X.env = ([], []) := by rfl) (hN0 : Ng[0]? = some a := by rfl) (hva : Vis (defScope st) a := by first | exact Or.inl rfl | exact Or.inr (Or.inl rfl))
    (hbind : ∀ (q : Str) (cl : List (Str × Addr)) (pm cv ctv : Value), bindArgs (PySem.W.kla_fn "<lambda>" q params body scope cl pm cv ctv) ⟨[], []⟩ = pure [] := by intros; rfl)
    (hdb : (x == ("__debug__" : Str)) = false := by decide) (hd : (a == ("__debug__" : Str)) = false := by decide) (hcd : (a == ("__classdict__" : Str)) = false := by decide) :
    PE X (.Call (.Name x p) [.Lambda params body scope lpos] [] pos) (fun σ H Q => LamX.TabS H P (nmOf X.K P) ∧ ∀ c' H1, Made H P c' (nmOf X.K P) H1 → LamX.TabS H1 P (nmOf X.K P) → TTe X.K l (fun E' H' Q' => tb E' σ H' Q') H1 Q) := by
  obtain ⟨oc, od, kV, doc, pm, an, cdv, ct, osl, rfl, lk, hcd2⟩ := D.fn.ex
  refine ⟨fun pins s σ H Q I ⟨hT, q1⟩ => ?_⟩
  refine wpAny_Call_Name_kw (ld_glob I hg D.gl ?_ hdb)
  refine PySem.W.callWith_K (h₀ := X.base) I.ok.mod.kin D.fn.kp ?_ (by rfl) (by rfl)
  show wpAny _ _ (spliced ((false, eval (.Lambda params body scope lpos) X.env) :: backTo pos (starEach [] X.env))) _ _ s
  refine Calls.spliced_cons (lam_mk I TB hcode hq hT hdef (L.has I.ok) fun f c' pm' ctv H1 s1 J m T1 hf hfn hfr hco => Calls.spliced_nil ⟨J.kIn, ?_⟩)
  have Ng0 : ∀ f : Addr, (L2.start Ng [V.ref f])[0]? = some (some (V.ref f)) := fun f => by simp [L2.start]
  have rc : codeAny (model X.prog X.w) X.A (.call (.ref g) ⟨[.ref f], []⟩) (CR C8.CX0 X.stack X.prog X.w H1 s1 Q C8.E0) s1 := by
    refine LamX.run_ofS (N := Ng) (ps := [a]) (us := [.ref f]) (vs := [.ref f]) (k := k + 1) lk hcd2 Sg hr J.env0 (D.bd s1 [.ref f] J.kIn rfl) (.cons rfl .nil) rfl fun hr1 => ?_
    have hco2 : H1 c' = some (LamX.CodeO c' (X.env.qual ++ "<lambda>")) := by rw [show X.env.qual ++ "<lambda>" = nmOf X.K P from hq]; exact hco
    obtain ⟨t, h1, h2⟩ := err_gives (Ed cdv) Ng0 f c' s1 H1 Q (fun E' H' Q' => tb E' σ H' Q') (fun W pn xe E' p1 p2 tk hW =>
      LamX.pe_act (i := 0) J L (by rw [hf]) hfn hfr (hbind _ _ _ _ _) tk hW hr1 (fun A outer s H hr2 => hbody A outer s H E' f c' hr2) hN0 hva hd hcd) hco2 (q1 c' H1 m T1)
    exact ⟨t, h1.nox, h2⟩
  refine wpAny_call (codeAny_mono rc fun res s2 hres => ?_)
  match res, hres with
  | .ok (.ret u), hres => exact J.after hres
  | .ok .next, hres => exact hres.elim
  | .ok .brk, hres => exact hres.elim
  | .ok .cont, hres => exact hres.elim
  | .error e, hres => exact (show False from hres).elim
theorem EnvR.tab {K : Fg} {r : Option Addr} {G H : Hp} {σ : L2.St} {ρ : List PV} {i : Nat} {P : Addr} (E : EnvR K r G H σ ρ) (e : ρ[i]? = some (.fz (tabG P))) : LamX.TabS H P (nmOf K P) := by
  obtain ⟨o, _, hs⟩ := E.slot i _ e
  exact hs G H (Same.refl _) (.refl _)
theorem de_err {x a : Str} {g c P : Addr} {k i : Nat} {l : List (Addr × Str)} {st : Stmt} {fd : FuncData} {Ng : List Str} {params : Arguments} {body : Expr} {scope : Scope} {tx : PT2} {p lpos pos : Pos}
    (D : Df X.K X.mg x st [a] g fd) (Ed : ∀ cdg : Value, ErrDef X Ng x (defScope st) g cdg (defBody st) a l) (Sg : FnScope Ng [a] (defScope st)) (TB : LamX.TabB X.base X.mg c P) (hcode : X.env.code = .ref c) (hq : LamN X = nmOf X.K P) (hr : Room (k + 2) X.A)
    (hbody : ∀ (A : Around) (outer : List Env) (s : Shared) (H : Hp) (E : XK) (f c' : Addr), Room k (A.deeper (LamX.lamEnv X scope s.heap.objs.size f c')) → DEX (LamX.lamCx X A outer s H E scope f c') (fun cls d _ H' => E cls d H') body tx)
    (L : LamX.LamS X.env.scope scope) (hg : Gl X x := by rfl) (hdef : defaultsOf params X.env = ([], []) := by rfl) (hN0 : Ng[0]? = some a := by rfl) (hva : Vis (defScope st) a := by first | exact Or.inl rfl | exact Or.inr (Or.inl rfl))
    (hbind : ∀ (q : Str) (cl : List (Str × Addr)) (pm cv ctv : Value), bindArgs (PySem.W.kla_fn "<lambda>" q params body scope cl pm cv ctv) ⟨[], []⟩ = pure [] := by intros; rfl)
    (hdb : (x == ("__debug__" : Str)) = false := by decide) (hd : (a == ("__debug__" : Str)) = false := by decide) (hcd : (a == ("__classdict__" : Str)) = false := by decide) :
    DE X (.Call (.Name x p) [.Lambda params body scope lpos] [] pos) (dErr X.K l i P tx) :=
  PE.weak (pe_err (tb := fun E' => liftEX X.K E' tx) D Ed Sg TB hcode hq hr hbody L hg hdef hN0 hva hbind hdb hd hcd) fun σ H Q ⟨r, G, ρ, R, E, ⟨ei, p1⟩, q1⟩ => ⟨E.tab ei, fun c' H1 m T1 => by
    have W1 := Made.grow m T1 E.st
    refine ⟨r, G, ρ, _, _, E.grow W1, p1, fun v d G' H' p' W' R' => ?_, ?_⟩
    · exact q1 _ _ G' H' p' (W1.trans W') (.str _)
    · rintro xx cls d G' H' ⟨s2, e1, e2⟩ W' ⟨e3, _⟩
      exact ⟨xx.c, s2, e3, e1, q1 _ _ G' H' e2 (W1.trans W') (.str _)⟩⟩
theorem takes_lam {A : Around} {outer : List Env} {s : Shared} {H : Hp} {E : XK} {scope : Scope} {f c' : Addr} : Takes (LamX.lamCx X A outer s H E scope f c') (fun cls d _ H' => E cls d H') := takes_of rfl rfl rfl rfl
end
end PD
/-! PXc: methods that may raise, fields' lists cut, the last step of a law. -/
namespace PD
open PySem PySem.Spec PyProof.Rows L2
section
variable {K : Fg} {r : Option Addr} {G H : Hp} {C a : Addr} {fs : List (Str × Fv)}
/-- a method that only reads and may raise -/
theorem pure_callX {F : PFX} {vs : List V} {xs : List Dt} {P : Dt → Prop} {R : Xn → Prop} {Q : VK} {E : XK} (S : Start K r G H) (O : ObR K G H C a fs) (hb : ∀ b ∈ a :: fps fs, G b = none ∧ r ≠ some b) (R1 : Reps K G vs xs)
    (p : F (.ins C (frzF fs) :: xs.map .d) (fun d => flatB d = true ∧ P d) fun x => x.fs = none ∧ R x) (q : ∀ v d G' H', P d → Grow K r G H G' H' → Rep K G' v d → Q v H') (qx : ∀ x cls d G' H', R x → Grow K r G H G' H' → XnR K G' H' x cls d → E cls d H') : liftX K F (.ref a :: vs) H Q E := by
  obtain ⟨⟨dx, ws, h1, h2⟩, nd⟩ := id O
  have g : Same G (pinG G H (a :: fps fs)) := pin_same fun b z => (hb b z).1
  refine ⟨none, pinG G H (a :: fps fs), .ins C (frzF fs) :: xs.map .d, _, _, S.pin O.there, .cons ⟨a, dx, ws, rfl, (pin_in (List.mem_cons_self ..)).trans h1, h2.frozen g fun b z => pin_in (List.mem_cons_of_mem _ z)⟩ (reps_args (R1.mono g)), p, fun v d G' H' ⟨f, p'⟩ W R' => ?_, fun x cls d G' H' ⟨n, p'⟩ W X' => ?_⟩
  · refine q v d _ H' p' (W.unpin S fun b z => (hb b z).1) (rep_flat f (fun b z xs o => ?_) R')
    have e : ∀ u, H b = some u → G' b = some u := fun u hu => W.g b u ((pin_in z).trans hu)
    cases z with
    | head => rw [e _ h1]; exact ⟨by simp, by simp⟩
    | tail _ z =>
      obtain ⟨us, hu⟩ := h2.kind z
      rw [e _ hu]; exact ⟨by simp, by simp⟩
  · refine qx x cls d (cutG G' (a :: fps fs)) H' p' (W.unpin S fun b z => (hb b z).1) ⟨X'.1, ?_⟩
    have := X'.2
    rw [n] at this ⊢
    exact this
end
section
variable {X : Cx} {W : WX} {E : XK} {pos p0 apos p : Pos} {C : Addr} {m : Str} {e : Expr} {es : List Expr}
/-- o.m(..) that may raise and changes nothing then -/
def xMeth (i : Nat) (C : Addr) (m : Str) (F : PFX) (ta : PTA) : PT2 := fun ρ P R => ∃ a fs, ρ[i]? = some (.obj C a fs) ∧ (fs.map (·.1)).all (fun x => m != x) = true ∧ ta ρ fun xs => F (.ins C (frzF fs) :: xs.map .d) (fun d => flatB d = true ∧ P d) fun x => x.fs = none ∧ R x
theorem dex_meth (i : Nat) {x : Str} {k : Nat} {f : Addr} {fd : FuncData} {ps : List Str} {F : PFX} {ta : PTA} {pl : Sem Bool} (tk : Takes X (fun cls d _ H' => E cls d H')) (T : Cls X.K C) (mf : Meth X.K C m f) (Fk : FnOk X.prog X.w X.K X.mg X.base (L2.CX X.prog X.w) k f fd ps (liftX X.K F)) (hr : Room k X.A) (hbd : Binds X.K fd ps []) (ha : DA X (e :: es) ta)
    (hN : X.N[i]? = some x := by rfl) (hv : Vis X.env.scope x := by first | exact Or.inl rfl | exact Or.inr (Or.inl rfl) | exact Or.inr (Or.inr rfl)) (hd : (x == ("__debug__" : Str)) = false := by decide) (hcd : (x == ("__classdict__" : Str)) = false := by decide)
    (he : starEach (e :: es) X.env = (false, eval e X.env) :: starEach es X.env := by rfl) (hpl : (backTo p (starEach es X.env)).any (·.1) = false := by rfl)
    (hev : eval (.Call (.Attribute (.Name x p0) m apos) (e :: es) [] p) X.env = (do let ov ← eval (.Name x p0) X.env; standAt apos.atName; let __x ← holding [ov] (getMethod ov m pl); match __x with | (f, first) => callWith p f first (backTo p (starEach (e :: es) X.env)) (backToKw p (keywordEach [] X.env))) := by rfl) :
    DEX X (fun cls d _ H' => E cls d H') (.Call (.Attribute (.Name x p0) m apos) (e :: es) [] p) (xMeth i C m F ta) :=
  PE.weak (pe_meth (E := E) (pe_var hN hv hd hcd) T mf Fk hr hbd .nil (passes_call tk fun _ _ _ _ h => h) ha he hpl hev) fun σ H Q ⟨r, G, ρ, P, R, E1, ⟨a, fs, e, nm, pa⟩, q, qx⟩ => by
    obtain ⟨h1, ⟨⟨dx, vs, h2, h3⟩, nd⟩, hb⟩ := E1.obAt e
    refine ⟨.ref a, h1, a, dx, vs, rfl, h2, lookup_none (by rw [h3.names]; exact nm), r, G, ρ, _, E1, pa, fun us xs G1 H1 p1 W1 R1 => ?_⟩
    show liftX X.K F (V.ref a :: (us ++ [])) H1 Q E
    rw [List.append_nil]
    obtain ⟨g1, O, hb'⟩ := (E1.grow W1).obAt e
    exact pure_callX (W1.start E1.st) O hb' R1 p1 (fun v d G' H' p' W' R' => q v d G' H' p' (W1.trans W') R') fun x cls d G' H' p' W' X' => qx x cls d G' H' p' (W1.trans W') X'
theorem dex_meth0 (i : Nat) {x : Str} {k : Nat} {f : Addr} {fd : FuncData} {ps : List Str} {F : PFX} {pl : Sem Bool} (tk : Takes X (fun cls d _ H' => E cls d H')) (T : Cls X.K C) (mf : Meth X.K C m f) (Fk : FnOk X.prog X.w X.K X.mg X.base (L2.CX X.prog X.w) k f fd ps (liftX X.K F)) (hr : Room k X.A) (hbd : Binds X.K fd ps [])
    (hN : X.N[i]? = some x := by rfl) (hv : Vis X.env.scope x := by first | exact Or.inl rfl | exact Or.inr (Or.inl rfl) | exact Or.inr (Or.inr rfl)) (hd : (x == ("__debug__" : Str)) = false := by decide) (hcd : (x == ("__classdict__" : Str)) = false := by decide)
    (hev : eval (.Call (.Attribute (.Name x p0) m apos) [] [] p) X.env = (do let ov ← eval (.Name x p0) X.env; standAt apos.atName; let __x ← holding [ov] (getMethod ov m pl); match __x with | (f, first) => callWith p f first (backTo p (starEach [] X.env)) (backToKw p (keywordEach [] X.env))) := by rfl) :
    DEX X (fun cls d _ H' => E cls d H') (.Call (.Attribute (.Name x p0) m apos) [] [] p) (xMeth i C m F dNil) :=
  PE.weak (pe_meth0 (E := E) (pe_var hN hv hd hcd) T mf Fk hr hbd .nil (passes_call tk fun _ _ _ _ h => h) hev) fun σ H Q ⟨r, G, ρ, P, R, E1, ⟨a, fs, e, nm, pa⟩, q, qx⟩ => by
    obtain ⟨h1, O, hb⟩ := E1.obAt e
    obtain ⟨⟨dx, vs, h2, h3⟩, nd⟩ := id O
    exact ⟨.ref a, h1, a, dx, vs, rfl, h2, lookup_none (by rw [h3.names]; exact nm), (show liftX X.K F (V.ref a :: ([] ++ [])) H Q E from pure_callX E1.st O hb .nil pa q qx)⟩
/-- C(..) whose __init__ raises -/
def xMake (F : PFX) (ta : PTAs) : PT2 := fun ρ _ R => ta ρ fun as => F (.fz (fun _ _ _ _ => True) :: as) (fun _ => False) R
theorem dex_make {x : Str} {k : Nat} {f : Addr} {fd : FuncData} {ps : List Str} {F : PFX} {ta : PTAs} (tk : Takes X (fun cls d _ H' => E cls d H')) (mk : Mk X.K C f) (Fk : FnOk X.prog X.w X.K X.mg X.base (L2.CX X.prog X.w) k f fd ps (liftX X.K F)) (hr : Room (k + 1) X.A) (hm : X.mg x = some (.ref C)) (hbd : Binds X.K fd ps []) (ha : DAs X (e :: es) ta)
    (hg : Gl X x := by rfl) (hdb : (x == ("__debug__" : Str)) = false := by decide) (he : starEach (e :: es) X.env = (false, eval e X.env) :: starEach es X.env := by rfl) (hpl : (backTo pos (starEach es X.env)).any (·.1) = false := by rfl) :
    DEX X (fun cls d _ H' => E cls d H') (.Call (.Name x p) (e :: es) [] pos) (xMake F ta) :=
  PE.weak (pe_make (E := E) mk Fk hr hg hm hbd .nil (passes_call tk fun _ _ _ _ h => h) ha hdb he hpl) fun σ H Q ⟨r, G, ρ, P, R, E1, pa, q, qx⟩ => ⟨r, G, ρ, _, E1, pa, fun us as G1 H1 p1 W1 R1 a dx ha hdx nex => by
    have S1 := W1.start E1.st
    have up : ∀ b o, H1 b = some o → (upd (upd H1 dx (.own a)) a (.ins C dx [])) b = some o := fun b o h => by rw [upd_ne (ne_of_none h ha), upd_ne (ne_of_none h hdx)]; exact h
    have rowk : ∀ c, r = some c → RowOk X.K G1 (upd (upd H1 dx (.own a)) a (.ins C dx [])) c := fun c ec => by
      obtain ⟨_, h⟩ := S1.row c ec
      obtain ⟨_, _, _, _, _, h1, _⟩ := id h
      exact h.at (Same.refl _) ((up _ _ h1).trans h1.symm)
    have S2 : Start X.K r G1 (upd (upd H1 dx (.own a)) a (.ins C dx [])) := ⟨fun b o g => up b o (S1.gh _ _ g), fun c ec => ⟨(S1.row c ec).1, rowk c ec⟩, S1.nt⟩
    have W2 : Grow X.K r G1 H1 G1 (upd (upd H1 dx (.own a)) a (.ins C dx [])) := ⟨Same.refl _, fun b o _ _ h => up b o h, S2.gh, fun _ _ _ n => n, rowk, .of up, fun _ _ h => h⟩
    show liftX X.K F (V.ref a :: (us ++ [])) _ _ E
    rw [List.append_nil]
    exact ⟨r, G1, .fz (fun _ _ _ _ => True) :: as, fun _ => False, R, S2, .cons (fun _ _ _ => True.intro) R1, p1, fun _ _ _ _ z => z.elim, fun x cls d G' H' p' W' X' => qx x cls d G' H' p' ((W1.trans W2).trans W') X'⟩⟩
end
/-! ### lists of an instance's own -/
def setV (f : Str) (ys : List Dt) : List (Str × Fv) → List (Str × Fv)
  | [] => []
  | (g, .d y) :: fs => (g, .d y) :: setV f ys fs
  | (g, .own b xs) :: fs => if g = f then (g, .own b ys) :: fs else (g, .own b xs) :: setV f ys fs
theorem setV_fps {f : Str} {ys : List Dt} : ∀ {fs : List (Str × Fv)}, fps (setV f ys fs) = fps fs
  | [] => rfl
  | (g, .d y) :: fs => setV_fps (fs := fs)
  | (g, .own b xs) :: fs => by
    unfold setV
    by_cases h : g = f
    · rw [if_pos h]; rfl
    · rw [if_neg h]
      exact congrArg (b :: ·) (setV_fps (fs := fs))
theorem ObF.setL {K : Fg} {G H H' : Hp} {f : Str} {c : Addr} {us' : List V} {xs ys : List Dt} (hc : H' c = some (.lst us')) (R : Reps K G us' ys) (ho : ∀ b, b ≠ c → ∀ o, H b = some o → H' b = some o) :
    ∀ {vs : List (Str × V)} {fs : List (Str × Fv)}, ObF K G H vs fs → (fps fs).Nodup → fs.lookup f = some (.own c xs) → ObF K G H' vs (setV f ys fs)
  | _, _, .nil, _, e => by simp at e
  | _, _, .d (f := g) a b, nd, e => by
    rw [List.lookup_cons] at e
    cases h : f == g with
    | true => rw [h] at e; cases e
    | false => rw [h] at e; exact ObF.d a (ObF.setL hc R ho b nd e)
  | _, _, .own (f := g) (b := d0) (fs := fs) e1 a b, nd, e => by
    rw [List.lookup_cons] at e
    obtain ⟨n1, n2⟩ := List.nodup_cons.mp (show (d0 :: fps fs).Nodup from nd)
    cases h : f == g with
    | true =>
      rw [h] at e
      cases e
      have hg : g = f := (by simpa using h : f = g).symm
      unfold setV
      rw [if_pos hg]
      refine .own hc R (b.at (Same.refl _) fun b' z => ?_)
      obtain ⟨u, hu, _⟩ := b.there b' z
      exact (ho b' (fun w => n1 (w ▸ z)) u hu).trans hu.symm
    | false =>
      rw [h] at e
      have hg : ¬ g = f := fun z => by subst z; simp at h
      unfold setV
      rw [if_neg hg]
      have ne : d0 ≠ c := fun z => n1 (z ▸ (b.lookupO e).2.1)
      exact .own (ho d0 ne _ e1) a (ObF.setL hc R ho b n2 e)
section
variable {X : Cx} {pos p0 apos p cpos ap2 py : Pos} {C : Addr} {f : Str} {e : Expr} {te : PT0}
/-- if o.f: a list of its own -/
def dTruF (i : Nat) (C : Addr) (f : Str) : PTT := fun ρ P => ∃ a fs c xs, ρ[i]? = some (.obj C a fs) ∧ fs.lookup f = some (.own c xs) ∧ P (!xs.isEmpty)
theorem dt_truF (i : Nat) {x : Str} (T : Cls X.K C) (n : NoAttr X.K C f) (hN : X.N[i]? = some x := by rfl) (hv : Vis X.env.scope x := by first | exact Or.inl rfl | exact Or.inr (Or.inl rfl) | exact Or.inr (Or.inr rfl)) (hd : (x == ("__debug__" : Str)) = false := by decide)
    (hcd : (x == ("__classdict__" : Str)) = false := by decide) (hb : attributeBase (.Name x p0) f X.env (eval (.Name x p0) X.env) = eval (.Name x p0) X.env := by rfl)
    (he : ∀ whole, isTrue (.Attribute (.Name x p0) f apos) X.env whole = (do let v ← whole; standAt (Expr.Attribute (.Name x p0) f apos).pos; holding [v] (truthy v)) := by intro _; rfl) : DT X (.Attribute (.Name x p0) f apos) (dTruF i C f) :=
  PT.weak (pt_truth (pe_fld (pe_var hN hv hd hcd) hb) he) fun σ H Q ⟨r, G, ρ, P, E, ⟨a, fs, c, xs, e, el, p⟩, q⟩ => by
    obtain ⟨h1, ⟨⟨dx, vs, h2, h3⟩, nd⟩, _⟩ := E.obAt e
    obtain ⟨l1, l2, us, l3, l4⟩ := h3.lookupO el
    refine ⟨.ref a, h1, a, C, dx, vs, _, rfl, h2, T, n, l1, _, .inl ⟨_, SqL.of l3, rfl⟩, ?_⟩
    have e2 : us.isEmpty = xs.isEmpty := by cases l4 <;> rfl
    rw [e2]
    exact q _ _ _ p E.st.grow
/-- y = o.f.pop() -/
def sPopF (i j : Nat) (C : Addr) (f : Str) : PTS := fun P ρ => ∃ a fs c xs y, ρ[i]? = some (.obj C a fs) ∧ fs.lookup f = some (.own c (xs ++ [y])) ∧ i ≠ j ∧ P.nx ((ρ.set i (.obj C a (setV f xs fs))).set j (.d y))
theorem ds_popF (i j : Nat) {x y : Str} (hNd : X.N.Nodup) (T : Cls X.K C) (n : NoAttr X.K C f) (hN : X.N[i]? = some x := by rfl) (hj : X.N[j]? = some y := by rfl) (hv : Vis X.env.scope x := by first | exact Or.inl rfl | exact Or.inr (Or.inl rfl) | exact Or.inr (Or.inr rfl)) (hd : (x == ("__debug__" : Str)) = false := by decide)
    (hcd : (x == ("__classdict__" : Str)) = false := by decide) (hy : Loc X.env.scope y := by first | exact Or.inl rfl | exact Or.inr rfl) (hb : attributeBase (.Name x p0) f X.env (eval (.Name x p0) X.env) = eval (.Name x p0) X.env := by rfl)
    (hbase : attributeBase (.Attribute (.Name x p0) f ap2) "pop" X.env (eval (.Attribute (.Name x p0) f ap2) X.env) = eval (.Attribute (.Name x p0) f ap2) X.env := by rfl)
    (hline : (apos.endLine == cpos.line) = true := by rfl) (hs : swapsWith (.Call (.Attribute (.Attribute (.Name x p0) f ap2) "pop" apos) [] [] cpos) (some (.Name y py)) pos.line X.env = pure false := by rfl)
    (hf : X.fn y = true ∨ X.env.scope.names.lookup y = some .local := by first | exact .inl rfl | exact .inr rfl) :
    DS X (.Assign [.Name y py] (.Call (.Attribute (.Attribute (.Name x p0) f ap2) "pop" apos) [] [] cpos) pos) (sPopF i j C f) :=
  PS.weak (ps_set hNd hj hy (pe_bm0 PySem.F.plainAttrs_list PySem.F.slot_list_pop PySem.F.type_list_pop mt_pop (pe_fld (pe_var hN hv hd hcd) hb) hbase hline) hs hf) fun Dn σ H ⟨r0, G0, H0, r, G, ρ, P, E, ⟨a, fs, c, xs, y, e, el, ij, p⟩, q⟩ => by
    obtain ⟨h1, ⟨⟨dx, vs, h2, h3⟩, nd⟩, hb'⟩ := E.env.obAt e
    obtain ⟨l1, l2, us, l3, l4⟩ := h3.lookupO el
    obtain ⟨us', u, rfl, r1, r2⟩ := reps_snoc l4
    have nac : a ≠ c := fun z => by subst z; exact (List.nodup_cons.mp nd).1 l2
    refine ⟨.ref a, h1, a, C, dx, vs, _, rfl, h2, T, n, l1, .inl ⟨rfl, _, SqL.of l3⟩, c, _, u, rfl, rfl, l3, by simp, ?_⟩
    rw [List.dropLast_concat]
    have E1 := E.putG e (Same.refl _) (H' := upd H c (.lst us')) (fs' := setV f xs fs) (fun b o _ nb _ hb2 => (upd_ne fun w => by subst w; exact nb (List.mem_cons_of_mem _ l2)).trans hb2) (.upd (ne_at l3 ne_lst)) (fun _ _ z => z)
      (fun b o g => (upd_ne fun w => by subst w; rw [(hb' _ (List.mem_cons_of_mem _ l2)).1] at g; cases g).trans (E.env.st.gh _ _ g)) (fun _ _ _ _ z => z) (fun d ec => by
        obtain ⟨_, q⟩ := E.env.st.row d ec
        exact q.at (Same.refl _) (upd_ne fun w => by subst w; exact (hb' _ (List.mem_cons_of_mem _ l2)).2 ec))
      ⟨⟨dx, vs, (upd_ne nac).trans h2, ObF.setL upd_same r1 (fun b z o h => (upd_ne z).trans h) h3 (List.nodup_cons.mp nd).2 el⟩, by rw [setV_fps]; exact nd⟩ (fun b z => by rw [setV_fps] at z; exact ⟨.inl z, hb' b z⟩)
    exact q.nx _ _ _ _ _ p (E1.setP (i := j) (o := some u) (p := .d y) ⟨_, rfl, r2⟩ fun _ z => nomatch z)
/-- o.f -= e, ints -/
def sFldS (i : Nat) (C : Addr) (f : Str) (te : PT0) : PTS := fun P ρ => ∃ a fs, ρ[i]? = some (.obj C a fs) ∧ ∃ m : Int, fs.lookup f = some (.d (.int m)) ∧ te ρ fun y => ∃ k : Int, y = .int k ∧ fs.length < 1000 ∧ P.nx (ρ.set i (.obj C a (putV f (.d (.int (m - k))) fs)))
theorem ds_fldS (i : Nat) {x : Str} (T : Cls X.K C) (n : NoAttr X.K C f) (he : DE X e te) (hN : X.N[i]? = some x := by rfl) (hv : Vis X.env.scope x := by first | exact Or.inl rfl | exact Or.inr (Or.inl rfl) | exact Or.inr (Or.inr rfl)) (hd : (x == ("__debug__" : Str)) = false := by decide)
    (hcd : (x == ("__classdict__" : Str)) = false := by decide) : DS X (.AugAssign (.Attribute (.Name x p0) f apos) .Sub e pos) (sFldS i C f te) :=
  PS.weak (ps_fldaug (pe_var hN hv hd hcd) he in_sub) fun Dn σ H ⟨r0, G0, H0, r, G, ρ, P, E, ⟨a, fs, e, m, el, p⟩, q⟩ => by
    obtain ⟨h1, ⟨⟨dx, vs, h2, h3⟩, nd⟩, hb⟩ := E.env.obAt e
    obtain ⟨v, h4, h5⟩ := h3.lookup el
    cases h5
    refine ⟨.ref a, h1, a, C, dx, vs, _, rfl, h2, T, n, h4, r, G, ρ, _, E.env, p, fun v y G1 H1 ⟨k, ey, hl, p1⟩ W R => ?_⟩
    subst ey
    cases R
    have E1 := E.grow W
    obtain ⟨g1, ⟨⟨dx', vs', g2, g3⟩, nd'⟩, hb'⟩ := E1.env.obAt e
    have no : noOwn f fs = true := by unfold noOwn; rw [el]
    exact ⟨m, k, rfl, rfl, dx', vs', g2, by rw [g3.length]; exact hl, q.nx _ _ _ _ _ p1 (E1.putF e g2 g3 no (.int _))⟩
end
end PD
/-! PXd: the last step of a law: a lambda that changes what is one's own. -/
namespace PD
open PySem PySem.Spec PyProof.Rows L2
section
variable {X : Cx}
/-- return a and _law_error(lambda: o.m(..)) == '' -/
def sRetErr (i j : Nat) (P : Addr) (C : Addr) (m : Str) (M : MF) (te : PT0) (ta : PTAs) : PTS := fun D ρ => te ρ fun x => x = .bool true ∧ ρ[i]? = some (.fz (tabG P)) ∧ ∃ a fs, ρ[j]? = some (.obj C a fs) ∧ (fs.map (·.1)).all (fun x => m != x) = true ∧ ta ρ fun as => M fs as fun _ => D.rt (.bool true)
theorem ds_retErr {x a m : Str} {g c C P : Addr} {k i j : Nat} {l : List (Addr × Str)} {st : Stmt} {fd : FuncData} {Ng : List Str} {params : Arguments} {body ea : Expr} {scope : Scope} {M : MF} {te : PT0} {ta : PTAs} {p lpos pos p1 p2 p3 p4 : Pos} {jj : Nat}
    (hA : DE X ea te) (D : Df X.K X.mg x st [a] g fd) (Ed : ∀ cdg : Value, ErrDef X Ng x (defScope st) g cdg (defBody st) a l) (Sg : FnScope Ng [a] (defScope st)) (TB : LamX.TabB X.base X.mg c P) (hcode : X.env.code = .ref c) (hq : LamN X = nmOf X.K P) (hr : Room (k + 2) X.A)
    (hbody : ∀ (A : Around) (outer : List Env) (s : Shared) (H : Hp) (E : XK) (f c' : Addr), Room k (A.deeper (LamX.lamEnv X scope s.heap.objs.size f c')) → PE (LamX.lamCx X A outer s H E scope f c') body (tMeth C m (liftM X.K C M) [] E0 (tVar j) (liftAs X.K ta)))
    (L : LamX.LamS X.env.scope scope) (hg : Gl X x := by rfl) (hdef : defaultsOf params X.env = ([], []) := by rfl) (hN0 : Ng[0]? = some a := by rfl) (hva : Vis (defScope st) a := by first | exact Or.inl rfl | exact Or.inr (Or.inl rfl))
    (hbind : ∀ (q : Str) (cl : List (Str × Addr)) (pm cv ctv : Value), bindArgs (PySem.W.kla_fn "<lambda>" q params body scope cl pm cv ctv) ⟨[], []⟩ = pure [] := by intros; rfl)
    (hdb : (x == ("__debug__" : Str)) = false := by decide) (hd : (a == ("__debug__" : Str)) = false := by decide) (hcd : (a == ("__classdict__" : Str)) = false := by decide) :
    DS X (.Return (some (.BoolOp .And [ea, .Compare (.Call (.Name x p) [.Lambda params body scope lpos] [] pos) [.Eq] [.Constant (.str "") jj p1] p2] p3)) p4) (sRetErr i j P C m M te ta) :=
  PS.weak (ps_ret (pe_and hA (pe_one (pe_cmpR op_eq (pe_err (tb := fun _ => tMeth C m (liftM X.K C M) [] E0 (tVar j) (liftAs X.K ta)) D Ed Sg TB hcode hq hr hbody L hg hdef hN0 hva hbind hdb hd hcd) pe_str (nomark _))))) fun Dn σ H ⟨r0, G0, H0, r, G, ρ, P1, E, p, q⟩ => by
    refine ⟨r, G, ρ, _, E.env, p, fun v d G1 H1 ⟨ed, ei, o, fs, eo, nm, pa⟩ W1 R1 => ?_⟩
    subst ed
    cases R1
    have E1 := E.grow W1
    refine ⟨true, rfl, E1.env.tab ei, fun c' H2 mk T2 => ?_⟩
    have E2 := E1.grow (Made.grow mk T2 E1.env.st)
    obtain ⟨h1, ⟨⟨dx, vs, h2, h3⟩, nd⟩, hb⟩ := E2.env.obAt eo
    refine ⟨.ref o, h1, o, dx, vs, rfl, h2, lookup_none (by rw [h3.names]; exact nm), r, G1, ρ, _, E2.env, pa, fun us as G3 H3 p3 W3 R3 => ?_⟩
    have E3 := E2.grow W3
    obtain ⟨g1, O3, hb3⟩ := E3.env.obAt eo
    show liftM X.K C M (V.ref o :: (us ++ [])) H3 _ E0
    rw [List.append_nil]
    refine ⟨r, G3, o, fs, us, as, _, rfl, E3.env.st, O3, hb3, R3, p3, fun fs' G' H' p' g hk tg nt gh y row O' hn => ?_⟩
    have E4 := E3.putG eo g hk tg nt gh y row O' hn
    refine ⟨rfl, ?_⟩
    show Dn.rt (.bl (decide (V.str "" = V.str ""))) H'
    rw [decide_eq_true rfl]
    exact q.rt _ _ G' H' p' E4.gr (.bl true)
end
/-! ### methods of a self that is only read, an instance made, a law with a table -/
section
variable {X : Cx} {pos p0 apos p px : Pos} {C : Addr} {m : Str} {o : Expr}
/-- o.m(), o only read -/
def dMethZ (i : Nat) (C : Addr) (m : Str) (F : PF) : PT0 := fun ρ P => ∃ fs, ρ[i]? = some (.ins C fs) ∧ (fs.map (·.1)).all (fun x => m != x) = true ∧ F [.ins C fs] P
theorem repF_names {K : Fg} {G : Hp} {vs : List (Str × V)} {fs : List (Str × Dt)} (h : RepF K G vs fs) : vs.map (·.1) = fs.map (·.1) := by
  induction h with
  | nil => rfl
  | cons _ _ ih => rw [List.map_cons, List.map_cons, ih]
theorem de_methZ0 (i : Nat) {x : Str} {k : Nat} {f : Addr} {fd : FuncData} {ps : List Str} {F : PF} {pl : Sem Bool} (T : Cls X.K C) (mf : Meth X.K C m f) (Fk : FnOk X.prog X.w X.K X.mg X.base CX0 k f fd ps (liftF X.K F)) (hr : Room k X.A) (hbd : Binds X.K fd ps [])
    (hN : X.N[i]? = some x := by rfl) (hv : Vis X.env.scope x := by first | exact Or.inl rfl | exact Or.inr (Or.inl rfl) | exact Or.inr (Or.inr rfl)) (hd : (x == ("__debug__" : Str)) = false := by decide) (hcd : (x == ("__classdict__" : Str)) = false := by decide)
    (hev : eval (.Call (.Attribute (.Name x p0) m apos) [] [] p) X.env = (do let ov ← eval (.Name x p0) X.env; standAt apos.atName; let __x ← holding [ov] (getMethod ov m pl); match __x with | (f, first) => callWith p f first (backTo p (starEach [] X.env)) (backToKw p (keywordEach [] X.env))) := by rfl) :
    DE X (.Call (.Attribute (.Name x p0) m apos) [] [] p) (dMethZ i C m F) :=
  PE.weak (pe_meth0 (pe_var hN hv hd hcd) T mf Fk hr hbd .nil pass0 hev) fun σ H Q ⟨r, G, ρ, P, E, ⟨fs, e, nm, pa⟩, q⟩ => by
    obtain ⟨o, h1, a, dx, vs, rfl, h2, h3⟩ := E.slot i _ e
    exact ⟨.ref a, h1, a, dx, vs, rfl, E.st.gh _ _ h2, lookup_none (by rw [repF_names h3]; exact nm), (show liftF X.K F (V.ref a :: ([] ++ [])) H Q E0 from ⟨r, G, [.ins C fs], P, E.st, .cons ⟨a, dx, vs, rfl, h2, h3⟩ .nil, pa, q⟩)⟩
/-- x = C(..) -/
def sMake (i : Nat) (C : Addr) (tn : PTM) : PTS := fun P ρ => i < ρ.length ∧ tn ρ fun fs => ∀ a : Addr, P.nx (ρ.set i (.obj C a fs))
theorem ds_make (i : Nat) {x : Str} {tn : PTM} (hN : X.N.Nodup) (ho : DN X C o tn) (hi : X.N[i]? = some x := by rfl) (hx : Loc X.env.scope x := by first | exact Or.inl rfl | exact Or.inr rfl)
    (hs : swapsWith o (some (.Name x px)) pos.line X.env = pure false := by rfl) (hf : X.fn x = true ∨ X.env.scope.names.lookup x = some .local := by first | exact .inl rfl | exact .inr rfl) : DS X (.Assign [.Name x px] o pos) (sMake i C tn) :=
  PS.weak (ps_set hN hi hx ho hs hf) fun Dn σ H ⟨r0, G0, H0, r, G, ρ, P, E, ⟨li, p⟩, q⟩ => ⟨r, G, ρ, _, E.env, p, fun a fs G' H' p' W O hn => q.nx _ _ _ _ _ (p' a) (E.takeO W O hn li)⟩
end
section
variable {P : Program} {w : World} {K : Fg} {mg : Str → Option Value} {base : Heap}
theorem EnvS.ghost {r0 r : Option Addr} {G0 H0 G H : Hp} {σ : L2.St} {ρ : List PV} {i : Nat} {Pt : Addr} (E : EnvS K r0 G0 H0 r G H σ ρ) (e : ρ[i]? = some .un) (es : σ[i]? = some none) (hT : LamX.TabS H Pt (nmOf K Pt)) : EnvS K r0 G0 H0 r G H σ (ρ.set i (.fz (tabG Pt))) := by
  have := E.setP (i := i) (o := none) (p := .fz (tabG Pt)) (fun G' H' _ t => t.tb Pt hT) (fun _ z => nomatch z)
  have e2 : List.set σ i none = σ := by
    refine List.ext_getElem? fun j => ?_
    by_cases h : i = j
    · subst h
      obtain ⟨hl, _⟩ := List.getElem?_eq_some_iff.mp es
      rw [List.getElem?_set_self hl, es]
    · rw [List.getElem?_set_ne h]
  rw [e2] at this
  exact this
def liftFT (K : Fg) (Pt : Addr) (F : PF) : Sp := fun vs H Q _ => ∃ (r : Option Addr) (G : Hp) (as : List PV) (P : Dt → Prop), Start K r G H ∧ Args K r G vs as ∧ LamX.TabS H Pt (nmOf K Pt) ∧ F as P ∧ ∀ v d G' H', P d → Grow K r G H G' H' → Rep K G' v d → Q v H'
/-- a def that makes lambdas: the last of its names is none, its slot says of the table -/
theorem fd_okT {x qual : Str} {st : Stmt} {f Pt cc : Addr} {N ps : List Str} {k gi : Nat} (F : PF) {oc kV doc pm ct : Value} {od an : Option Addr} {osl : Array (Option Value)} (lk : K.lookup f = some ⟨oc, od, .func (PySem.W.fnOf x qual (defArgs st) (defBody st) (defScope st) .none kV doc pm an (.ref cc) ct), osl⟩) (hcd : PySem.W.codeIn K (.ref cc) qual = true)
    (S : FnScope N ps (defScope st)) (len : ∀ as P, F as P → as.length = ps.length) (hg : gi < N.length) (hg2 : ps.length ≤ gi)
    (body : ∀ (A : Around) (outer : List Env) (s : Shared) (H : Hp) (E : XK), Room k (A.deeper (envOfC qual (defScope st) s.heap.objs.size f (.ref cc))) →
      ∃ t, DSs (cxOf CX0 P w K mg base N qual (defScope st) f (.ref cc) A outer s H E).nox (defBody st) t ∧ ∀ as Q, F as Q → t { nx := fun _ => Q .none, rt := Q } ((startP N as).set gi (.fz (tabG Pt)))) :
    FnOk P w K mg base CX0 (k + 1) f (PySem.W.fnOf x qual (defArgs st) (defBody st) (defScope st) .none kV doc pm an (.ref cc) ct) ps (liftFT K Pt F) := by
  refine fn_of lk hcd S (fun vs H Q E ⟨r, G, as, P, _, A, _, p, _⟩ => (Paired.length A).trans (len as P p)) fun A outer s H vs Q E hr ⟨r, G, as, P, S1, R, hT, p, q⟩ => ?_
  obtain ⟨t, ht, hp⟩ := body A outer s H E hr
  have hl : as.length = ps.length := len as P p
  have hv : vs.length = as.length := Paired.length R
  have e0 := env_start (N := N) S1 R
  have e1 : (startP N as)[gi]? = some .un := by
    unfold startP
    rw [List.getElem?_append_right (by omega), List.getElem?_replicate, if_pos (by omega)]
  have e2 : (L2.start N vs)[gi]? = some none := by
    unfold L2.start
    rw [List.getElem?_append_right (by simp; omega), List.getElem?_replicate, if_pos (by simp; omega)]
  exact ⟨liftS K t, ht.nox, r, G, H, r, G, _, _, e0.ghost e1 e2 hT, hp as P p, ⟨fun r' σ' ρ' G' H' p' E' => q .non .none G' H' p' E'.gr .non, fun _ _ _ _ _ z => z.elim, fun _ _ _ _ _ z => z.elim, fun v d G' H' p' W R => q v d G' H' p' W R⟩⟩
end
end PD
/-! PXe: lambdas as values, with defaults too. -/
namespace PD
open PySem PySem.Spec PyProof.Rows L2

/-- a lambda's text, and its defaults -/
structure LT where
  params : Arguments
  body : Expr
  scope : Scope
  dv : List V
/-- at f: that lambda, its qualified name, the cells that it holds, its defaults' tuple, its code object -/
def LmO (f : Addr) (q : Str) (T : LT) (cl : List (Str × Addr)) (dV : Value) (c' : Addr) : HO :=
  .ext fun h => ∃ (doc pm ctv : Value), h.get? f = some (PySem.W.kdv_obj "<lambda>" q T.params (.expr T.body) T.scope cl dV doc pm c' ctv)
/-- its defaults as they stand -/
def DvAt (G : Hp) (T : LT) (dV : Value) : Prop := (dV = .none ∧ T.dv = []) ∨ ∃ D v, dV = .ref D ∧ T.dv = [v] ∧ G D = some (.tup [v])
/-- at f a lambda of the text T is known -/
def LamAt (q : Str) (cells : List (Str × Addr)) (T : LT) (G H : Hp) (f : Addr) : Prop :=
  ∃ c' dV, H f = some (LmO f q T (cloFrom cells T.scope.names []) dV c') ∧ H c' = some (LamX.CodeO c' q) ∧ DvAt G T dV
theorem LamAt.mono {K : Fg} {q : Str} {cells : List (Str × Addr)} {T : LT} {G H G' H' : Hp} {f : Addr} (h : LamAt q cells T G H f) (g : Same G G') (t : TbGo K H H') : LamAt q cells T G' H' f := by
  obtain ⟨c', dV, h1, h2, h3⟩ := h
  refine ⟨c', dV, t.ex _ _ h1, t.ex _ _ h2, ?_⟩
  rcases h3 with h3 | ⟨D, v, e1, e2, e3⟩
  · exact .inl h3
  · exact .inr ⟨D, v, e1, e2, g _ _ e3⟩
/-- its names: parameters of its own, captured ones, globals -/
structure LamP (N : List Str) (sc scope : Scope) : Prop where
  kind : scope.kind = .function
  co : scope.isCoroutine = false
  gen : scope.isGenerator = false
  nocell : ∀ y ∈ scope.names, y.2 ≠ .cell
  own : ∀ y ∈ scope.names, y.2 = .local → y.1 ∉ N
  free : ∀ y ∈ scope.names, y.2 = .free → sc.names.lookup y.1 = some .cell ∨ sc.names.lookup y.1 = some .free
def lamPB (N : List Str) (sc scope : Scope) : Bool :=
  decide (scope.kind = .function) && !scope.isCoroutine && !scope.isGenerator && scope.names.all fun y => !decide (y.2 = .cell) && (!decide (y.2 = .local) || !N.contains y.1) && (!decide (y.2 = .free) || decide (sc.names.lookup y.1 = some .cell) || decide (sc.names.lookup y.1 = some .free))
theorem lamP_by {N : List Str} {sc scope : Scope} (h : lamPB N sc scope = true) : LamP N sc scope := by
  unfold lamPB at h
  simp only [Bool.and_eq_true, Bool.or_eq_true, Bool.not_eq_true', decide_eq_true_eq, decide_eq_false_iff_not, List.all_eq_true, List.contains_eq_mem] at h
  obtain ⟨⟨⟨h1, h2⟩, h3⟩, h4⟩ := h
  refine ⟨h1, h2, h3, fun y hy => (h4 y hy).1.1, fun y hy e => ?_, fun y hy e => ?_⟩
  · rcases (h4 y hy).1.2 with z | z
    · exact absurd e z
    · exact z
  · rcases (h4 y hy).2 with (z | z) | z
    · exact absurd e z
    · exact .inl z
    · exact .inr z
theorem LamP.has {X : Cx} {N : List Str} {scope : Scope} (L : LamP N X.env.scope scope) (ok : X.Ok) : ∀ y ∈ scope.names, y.2 = .free → ∃ c, X.env.cells.lookup y.1 = some c := fun y hy e => ok.has _ (L.free y hy e)
/-- what its call without arguments binds -/
structure LamB (T : LT) : Prop where
  b0 : T.dv = [] → ∀ (q : Str) (cl : List (Str × Addr)) (doc pm cv ctv : Value), bindArgs (PySem.W.kdv_fn "<lambda>" q T.params (.expr T.body) T.scope cl .none doc pm cv ctv) ⟨[], []⟩ = pure []
  b1 : ∀ v, T.dv = [v] → ∃ a, T.scope.names.lookup a = some .local ∧ ∀ (q : Str) (cl : List (Str × Addr)) (doc pm cv ctv : Value) (D : Addr) (u : Value),
    ∃ k, bindArgs (PySem.W.kdv_fn "<lambda>" q T.params (.expr T.body) T.scope cl (.ref D) doc pm cv ctv) ⟨[], []⟩ = (seqItems? (.ref D) >>= k) ∧ k (some #[u]) = pure [(a, u)]
section
variable {X : Cx} {pins : List (Addr × Obj)} {σ : L2.St} {H : Hp} {s : Shared}
/-- the making's end: the function's object is known from now on -/
theorem lam_tail {T : LT} {c P : Addr} {q : Str} {dV : Value} {pos : Pos} {E Q : Value → Shared → Prop} (I : Inv X pins σ H s) (TB : LamX.TabB X.base X.mg c P) (hcode : X.env.code = .ref c) (hq : LamN X = q) (hT : LamX.TabS H P q)
    (hfree : ∀ y ∈ T.scope.names, y.2 = .free → ∃ d, X.env.cells.lookup y.1 = some d)
    (h : ∀ (f c' : Addr) (H1 : Hp) (s1 : Shared), Made H P c' q H1 → LamX.TabS H1 P q → H1 f = none → H1 c' = some (LamX.CodeO c' q) → Inv X pins σ (upd H1 f (LmO f q T (cloFrom X.env.cells T.scope.names []) dV c')) s1 → Q (.ref f) s1) :
    wpAny (model X.prog X.w) X.A (makeTail "<lambda>" (LamN X) T.params (.expr T.body) T.scope X.env dV .none none pos pos.line) Q E s := by
  subst hq
  obtain ⟨ps, hP, ht, ha⟩ := id hT
  have inP := I.hok P _ hP
  have blt := TB.bm.keeps I.bk
  have cod := TB.code.keeps I.bk
  have lay : ∀ {H1 : Hp} {hp : Heap} {tk : Nat} {c' : Addr} {ctv doc : Value}, Inv X pins σ H1 { s with heap := hp, toks := tk } →
      Inv X pins σ (upd H1 hp.objs.size (LmO hp.objs.size (LamN X) T (cloFrom X.env.cells T.scope.names []) dV c')) { s with heap := hp.push (PySem.W.kdv_obj "<lambda>" (LamN X) T.params (.expr T.body) T.scope (cloFrom X.env.cells T.scope.names []) dV doc ((X.mg "__name__").getD .none) c' ctv), toks := tk } := fun {H1 hp tk c' ctv doc} J => by
    have e := Heap.get?_push_size hp (o := PySem.W.kdv_obj "<lambda>" (LamN X) T.params (.expr T.body) T.scope (cloFrom X.env.cells T.scope.names []) dV doc ((X.mg "__name__").getD .none) c' ctv) rfl
    exact J.laid (t' := tk) (a := hp.objs.size) (fun b u q => Heap.get?_push_of_some _ q) (Nat.le_refl _) ⟨⟨_, _, _, e⟩, ⟨_, e⟩, fun h1 h2 ⟨d, p, t, z⟩ st => ⟨d, p, t, st _ z⟩⟩
  cases hc : codeAmong pos ps.toList with
  | some cv =>
    obtain ⟨c', rfl, hco⟩ := ha pos cv hc
    refine PySem.W.kdv_makeTailHit (mg := X.mg) (c := c) (P := P) (ps := ps) (closure_ok hfree) I.ok.glob (I.mod.glob.keeps I.bk) hcode cod inP ht hc blt fun ctv doc hp tk hx hsz => ?_
    have J : Inv X pins σ H { s with heap := hp, toks := tk } := I.kept hx
    exact h hp.objs.size c' H _ (.inl rfl) hT (J.hok.fresh (Nat.le_refl _)) hco (lay J)
  | none =>
    refine PySem.W.kdv_makeTail (mg := X.mg) (c := c) (P := P) (ps := ps) (closure_ok hfree) I.ok.glob (I.mod.glob.keeps I.bk) hcode cod inP ht hc TB.gP blt fun c' ctv doc hp tk hx hge hlt hrec htb => ?_
    obtain ⟨d, oc, vs, t, e2, hoc, hd, hv⟩ := hrec
    cases e2
    have nC : H c' = none := I.hok.fresh hge
    have J := LamX.inv_table (t' := tk) (q := LamN X) (more := #[rawInt pos.line, rawInt pos.col, .ref c']) (h' := hp) I hP (fun b o nb e => hx b o nb e) htb hge ⟨oc, vs, t, hoc, hd, hv⟩
    exact h hp.objs.size c' _ _ (.inr ⟨ps, _, hP, nC, rfl⟩) (tab_more (pos := pos) hP nC ht ha) (J.hok.fresh (Nat.le_refl _)) upd_same (lay J)
/-- a lambda is made -/
theorem lam_new {T : LT} {c P : Addr} {q : Str} {pos : Pos} {E Q : Value → Shared → Prop} (I : Inv X pins σ H s) (TB : LamX.TabB X.base X.mg c P) (hcode : X.env.code = .ref c) (hq : LamN X = q) (hT : LamX.TabS H P q)
    (hdef : defaultsOf T.params X.env = ([], [])) (hfree : ∀ y ∈ T.scope.names, y.2 = .free → ∃ d, X.env.cells.lookup y.1 = some d)
    (h : ∀ (f c' : Addr) (H1 : Hp) (s1 : Shared), Made H P c' q H1 → LamX.TabS H1 P q → H1 f = none → H1 c' = some (LamX.CodeO c' q) → Inv X pins σ (upd H1 f (LmO f q T (cloFrom X.env.cells T.scope.names []) .none c')) s1 → Q (.ref f) s1) :
    wpAny (model X.prog X.w) X.A (eval (.Lambda T.params T.body T.scope pos) X.env) Q E s := by
  refine PySem.W.kla_eval hdef ?_
  rw [makeFunction_eq]
  simp only [List.zip_nil_right, List.filterMap_nil, List.isEmpty_nil, if_true, pure_bind]
  exact lam_tail I TB hcode hq hT hfree h
/-- .. with one default, an int -/
theorem lam_newD {T : LT} {c P : Addr} {q : Str} {pos dp : Pos} {i : Int} {j : Nat} {Q : Value → Shared → Prop} (I : Inv X pins σ H s) (TB : LamX.TabB X.base X.mg c P) (hcode : X.env.code = .ref c) (hq : LamN X = q) (hT : LamX.TabS H P q)
    (hd : T.params.defaults = [.Constant (.int i) j dp]) (hk : T.params.kw_defaults = []) (hfree : ∀ y ∈ T.scope.names, y.2 = .free → ∃ d, X.env.cells.lookup y.1 = some d)
    (h : ∀ (D f c' : Addr) (H1 : Hp) (s1 : Shared), H D = none → Made (upd H D (.tup [.int i])) P c' q H1 → LamX.TabS H1 P q → H1 f = none → H1 c' = some (LamX.CodeO c' q) → Inv X pins σ (upd H1 f (LmO f q T (cloFrom X.env.cells T.scope.names []) (.ref D) c')) s1 → Q (.ref f) s1) :
    wpAny (model X.prog X.w) X.A (eval (.Lambda T.params T.body T.scope pos) X.env) Q X.xe s := by
  refine PySem.W.kdv_lam (by rw [hd]; rfl) hk ?_
  rw [hd]
  refine PySem.W.kdv_all1 (thn ((pe_int (pos := dp) (j := j)).run pins s σ H (fun v H1 => v = .int i ∧ H1 = H) I ⟨rfl, rfl⟩) fun u s1 ⟨v, H1, I1, r1, e1, e2⟩ => PySem.W.kdv_all0 ?_)
  subst e1 e2
  rw [makeFunction_eq]
  simp only [List.zip_nil_right, List.filterMap_nil, List.isEmpty_nil, List.isEmpty_cons, if_true, pure_bind, Bool.false_eq_true, if_false]
  have hf : H1 s1.heap.objs.size = none := I1.hok.fresh (Nat.le_refl _)
  refine wpAny_bind (wpAny_newTextTuple ?_)
  have e := Heap.get?_push_size s1.heap (o := ({ cls := .type "tuple", data := .seq [u].toArray } : Obj)) rfl
  have J : Inv X pins σ (upd H1 s1.heap.objs.size (.tup [.int i])) { s1 with heap := s1.heap.push { cls := .type "tuple", data := .seq [u].toArray } } :=
    I1.laid (t' := s1.toks) (a := s1.heap.objs.size) (fun b u q => Heap.get?_push_of_some _ q) (Nat.le_refl _) ⟨by show 1 ≤ sizeLine; decide, [u], .cons r1 .nil, _, e, rfl, _, rfl⟩
  exact lam_tail J TB hcode hq (hT.ext fun b o e => (upd_ne (ne_of_none e hf)).trans e) hfree fun f c' H2 s2 m T1 hfn hco J2 => h _ f c' H2 s2 hf m T1 hfn hco J2
/-- the lambda's body begins -/
theorem lam_begin {A : Around} {outer : List Env} {E : XK} {scope : Scope} {f c' : Addr} {hp : Heap} {tk : Nat} {s1 : Shared} {HZ : Hp} {binds : List (Str × Value)} (I : Inv X pins σ H s) (L : LamP X.N X.env.scope scope) (e0 : Env0 X.prog X.w X.K X.mg X.base A outer s1 HZ) (hd : A.handled = none)
    (un : Un (frs X.stack) [] H HZ s.heap s1.heap) (hns : hp.Ns s1.heap.objs.size fun y => binds.reverse.lookup y) (kp : ∀ b o, s1.heap.get? b = some o → hp.get? b = some o) :
    Inv (LamX.lamCx X A outer s1 HZ E scope f c') [] σ HZ { s1 with heap := hp, toks := tk } := by
  have has := L.has I.ok
  -- a cell of the lambda is the maker's
  have cm : ∀ {y c}, (cloFrom X.env.cells scope.names []).lookup y = some c → X.env.cells.lookup y = some c := fun {y c} e => by
    rcases cloFrom_mem (PySem.mem_of_lookup e) with z | ⟨h1, h2⟩
    · cases z
    · obtain ⟨c1, h3⟩ := has _ h1 rfl
      have h3 : X.env.cells.lookup y = some c1 := h3
      rw [h3] at h2
      rw [h3, h2]; rfl
  have lk : ∀ {y}, scope.names.lookup y = some .free → ∃ c, (cloFrom X.env.cells scope.names []).lookup y = some c := fun {y} e => mem_lookup (cloFrom_has (PySem.mem_of_lookup e))
  have keepC : ∀ {c : Addr} {v : Option Value}, H c = none → s.heap.IsCell c v → hp.IsCell c v := fun {c v} n ⟨o, ho, hdt⟩ => by
    obtain ⟨sl, q⟩ := un.any ho n (by simp)
    exact ⟨_, kp _ _ q, hdt⟩
  refine { ok := ?_, os := rfl, bare := e0.bare, base := Un.kept kp, loc := ?_, cell := ?_, free := e0.hok.fresh (Nat.le_refl _), freeC := ?_, pin := ?_, hok := e0.hok.kept kp, len := I.len }
  · refine { mod := e0.mod, kind := L.kind, glob := rfl, blt := rfl, above := Nat.le_refl _, inj := fun y z c e1 e2 => I.ok.inj y z c (cm e1) (cm e2), has := fun y hy => ?_, cab := fun y c z _ => (by cases (show false = true from z)), hd := fun _ => hd, frames := Around.frames_deeper e0.frames, stk := .inr ⟨rfl, rfl⟩, exf := fun b z => (by cases (show b ∈ ([] : List Addr) from z)), bs := e0.bs, bsz := e0.bsz, noex := fun b _ _ z => (by cases (show b ∈ ([] : List Addr) from z)), exfs := fun b z => (by cases (show b ∈ ([] : List Addr) from z)), funs := e0.funs, frf := e0.frf }
    rcases (show scope.names.lookup y = some .cell ∨ scope.names.lookup y = some .free from hy) with z | z
    · exact absurd rfl (L.nocell _ (PySem.mem_of_lookup z))
    · exact lk z
  · refine ⟨_, hns, fun i y v e1 e2 e3 => ?_⟩
    rcases (show Vis scope y from e3) with z | z | z
    · exact absurd (List.mem_of_getElem? e1) (L.own _ (PySem.mem_of_lookup z) rfl)
    · exact absurd rfl (L.nocell _ (PySem.mem_of_lookup z))
    · obtain ⟨m, hn, hl⟩ := I.loc
      obtain ⟨u, r, q⟩ := hl i y v e1 e2 ((L.free _ (PySem.mem_of_lookup z) rfl).elim (fun k => .inr (.inl k)) (fun k => .inr (.inr k)))
      obtain ⟨c2, h2⟩ := lk z
      refine ⟨u, r, .inr ⟨.inr z, c2, h2, ?_⟩⟩
      rcases q with ⟨k, _⟩ | ⟨_, c3, e4, q⟩
      · have k : X.env.scope.names.lookup y = some .local := k
        rcases L.free _ (PySem.mem_of_lookup z) rfl with k2 | k2 <;> rw [show X.env.scope.names.lookup y = _ from k2] at k <;> cases k
      · rw [cm h2] at e4
        cases e4
        exact keepC (I.freeC y _ (cm h2)) q
  · intro y c e
    obtain ⟨v, q⟩ := I.cell y c (cm e)
    exact ⟨v, keepC (I.freeC y c (cm e)) q⟩
  · intro y c e
    obtain ⟨v, o, ho, _⟩ := I.cell y c (cm e)
    exact un.free c o ho (I.freeC y c (cm e)) (by simp)
  · intro q hq
    cases (show q ∈ ([] : List (Addr × Obj)) ++ [] from hq)
/-- a(), a a name of the def that was called, whose value is a lambda known to it -/
theorem act_lam {CXg : CXT} {Eg : XK} {Ng : List Str} {qg a : Str} {sg : Scope} {g f c' : Addr} {cdg dV : Value} {T : LT} {k i : Nat} {pn : List (Addr × Obj)} {xe : Value → Shared → Prop} {W : WX} {E : XK} {tb : TE} {p1 p2 : Pos}
    (I : Inv X pins σ H s) (L : LamP X.N X.env.scope T.scope) (B : LamB T)
    (tk : Takes ((cxOf CXg X.prog X.w X.K X.mg X.base Ng qg sg g cdg X.A X.stack s H Eg).tr pn xe) W) (hW : ∀ cls d σ' H', E cls d H' → W cls d σ' H') (hr : Room (k + 1) (X.A.deeper (envOfC qg sg s.heap.objs.size g cdg)))
    (hbody : ∀ (A : Around) (outer : List Env) (s : Shared) (H : Hp), Room k (A.deeper (LamX.lamEnv X T.scope s.heap.objs.size f c')) → PE (LamX.lamCx X A outer s H E T.scope f c') T.body tb)
    (hN : Ng[i]? = some a) (hv : Vis sg a) (hd : (a == ("__debug__" : Str)) = false := by decide) (hcd : (a == ("__classdict__" : Str)) = false := by decide) :
    PE ((cxOf CXg X.prog X.w X.K X.mg X.base Ng qg sg g cdg X.A X.stack s H Eg).tr pn xe) (.Call (.Name a p1) [] [] p2)
      (fun σZ HZ Q => σZ[i]? = some (some (.ref f)) ∧ HZ c' = some (LamX.CodeO c' (LamN X)) ∧ HZ f = some (LmO f (LamN X) T (cloFrom X.env.cells T.scope.names []) dV c') ∧ DvAt HZ T dV ∧ tb σ HZ Q) := by
  refine ⟨fun pinsZ sZ σZ HZ Q IZ ⟨hs, hc, hf, hD, ht⟩ => ?_⟩
  refine wpAny_Call_Name_kw (thn ((pe_var (pos := p1) (i := i) hN hv hd hcd).run pinsZ sZ σZ HZ (fun v H1 => v = .ref f ∧ H1 = HZ) IZ ⟨.ref f, hs, rfl, rfl⟩) fun u s1 ⟨v, H1, I1, r1, e1, e2⟩ => ?_)
  subst e1 e2
  cases (show u = Value.ref f from r1)
  obtain ⟨⟨doc, pm, ctv, of1⟩, _, _⟩ := I1.hok f _ hf
  refine PySem.W.callWith_F0 ⟨_, _, _, _, of1⟩ ?_
  have un : Un (frs X.stack) [] H H1 s.heap s1.heap := I1.base
  obtain ⟨⟨oc, vs, t, hoc, hdc, hvc⟩, _, _⟩ := I1.hok c' _ hc
  have bind : ∃ binds : List (Str × Value), (∀ y ∈ binds, T.scope.names.lookup y.1 = some .local) ∧ BindsTo s1 (PySem.W.kdv_fn "<lambda>" (LamN X) T.params (.expr T.body) T.scope (cloFrom X.env.cells T.scope.names []) dV doc pm (.ref c') ctv) ⟨[], []⟩ binds := by
    rcases hD with ⟨rfl, e⟩ | ⟨D, v, rfl, e, hD⟩
    · exact ⟨[], fun y hy => (by cases hy), BindsTo.of_eq (B.b0 e ..)⟩
    · obtain ⟨_, its, rv, o, ho, hcl, n, hdt⟩ := I1.hok D _ hD
      obtain ⟨a, ha, hb⟩ := B.b1 v e
      cases rv with
      | cons r1 r2 =>
        cases r2
        obtain ⟨k, h1, h2⟩ := hb (LamN X) (cloFrom X.env.cells T.scope.names []) doc pm (.ref c') ctv D _
        exact ⟨[(a, _)], fun y hy => (by cases List.mem_singleton.mp hy; exact ha), BindsTo.of_defaults rfl ho hdt h1 h2⟩
  obtain ⟨binds, hloc, hbind⟩ := bind
  have rc : codeAny (model X.prog X.w) (X.A.deeper (envOfC qg sg s.heap.objs.size g cdg)) (.call (.ref f) ⟨[], []⟩) (CR (L2.CX X.prog X.w) (envOfC qg sg s.heap.objs.size g cdg :: X.stack) X.prog X.w H1 s1 Q E) s1 := by
    refine PySem.W.kla_callFunE hr.depth of1 rfl L.co L.gen rfl ⟨c', oc, vs, t, rfl, hoc, hdc, hvc⟩ (hbind _ _ _ _ ?_)
    refine wpAny_newFunctionEnv L.nocell hloc (fun hp hns hsb => ⟨I1.nolimit.fresh _ hsb, ?_⟩) L.kind
    show codeAny _ _ (.expr T.body (LamX.lamEnv X T.scope s1.heap.objs.size f c')) _ _
    have kp : ∀ b o, s1.heap.get? b = some o → hp.get? b = some o := fun b o e => hsb.extBut b o (Nat.ne_of_lt (Heap.lt_size e)) (Heap.get?_push_of_some _ e)
    have J := lam_begin (E := E) (f := f) (c' := c') (tk := s1.toks + binds.length) I L I1.env0 hr.hd un hns kp
    refine PySem.W.kla_codeExpr (wpAny_mono ((hbody _ _ s1 H1 (hr.deeper _)).run [] _ _ H1 Q J ht) (fun v s' ⟨w', H', J', rv, q⟩ => ⟨w', H', J'.os, J'.bare, J'.base, J'.hok, rv, q⟩) fun e s' hq => hq)
  have hx : Passes (L2.CX X.prog X.w) ((cxOf CXg X.prog X.w X.K X.mg X.base Ng qg sg g cdg X.A X.stack s H Eg).tr pn xe) E := passes_call tk hW
  refine wpAny_call (codeAny_mono rc fun r s' hq => ?_)
  match r, hq with
  | .error e, hq => exact hx pinsZ σZ H1 s1 e s' I1 hq
  | .ok (.ret u), hq => exact I1.after hq
  | .ok .next, hq => exact hq.elim
  | .ok .brk, hq => exact hq.elim
  | .ok .cont, hq => exact hq.elim
end
end PD
/-! PXf: _law_error of a lambda that is known; lists of lambdas. -/
namespace PD
open PySem PySem.Spec PyProof.Rows L2

/-- what a lambda's text keeps, in whatever frame its body runs -/
structure CloOk (X : Cx) (k : Nat) (T : LT) (tx : PT2) : Prop where
  p : LamP X.N X.env.scope T.scope
  b : LamB T
  body : ∀ (A : Around) (outer : List Env) (s : Shared) (H : Hp) (E : XK) (f c' : Addr), Room k (A.deeper (LamX.lamEnv X T.scope s.heap.objs.size f c')) → DEX (LamX.lamCx X A outer s H E T.scope f c') (fun cls d _ H' => E cls d H') T.body tx
/-- at f a lambda with the reading tx -/
def CloAt (X : Cx) (k : Nat) (tx : PT2) (G H : Hp) (f : Addr) : Prop := ∃ T, CloOk X k T tx ∧ LamAt (LamN X) X.env.cells T G H f
theorem CloAt.mono {X : Cx} {k : Nat} {tx : PT2} {G H G' H' : Hp} {f : Addr} (h : CloAt X k tx G H f) (g : Same G G') (t : TbGo X.K H H') : CloAt X k tx G' H' f := by
  obtain ⟨T, a, b⟩ := h
  exact ⟨T, a, b.mono g t⟩
theorem DvAt.same {G H : Hp} {T : LT} {dV : Value} (h : DvAt G T dV) (g : Same G H) : DvAt H T dV := by
  rcases h with h | ⟨D, v, e1, e2, e3⟩
  · exact .inl h
  · exact .inr ⟨D, v, e1, e2, g _ _ e3⟩
/-- what _law_error makes of a reading -/
def xTold (K : Fg) (l : List (Addr × Str)) (tx : PT2) : PT0 := fun ρ Q => tx ρ (fun _ => Q (.str "")) fun x => ∃ s, caughtBy K l x.c = some s ∧ Q (.str s)
section
variable {X : Cx} {x a : Str} {g : Addr} {k : Nat} {l : List (Addr × Str)} {st : Stmt} {fd : FuncData} {Ng : List Str} {tx : PT2}
/-- the run of _law_error -/
theorem err_run {pins : List (Addr × Obj)} {σ : L2.St} {H : Hp} {s : Shared} {Q : VK} {f c' : Addr} {dV : Value} {T : LT} (J : Inv X pins σ H s)
    (D : Df X.K X.mg x st [a] g fd) (Ed : ∀ cdg : Value, ErrDef X Ng x (defScope st) g cdg (defBody st) a l) (Sg : FnScope Ng [a] (defScope st)) (hr : Room (k + 2) X.A) (C : CloOk X k T tx)
    (hf : H f = some (LmO f (LamN X) T (cloFrom X.env.cells T.scope.names []) dV c')) (hc : H c' = some (LamX.CodeO c' (LamN X))) (hD : DvAt H T dV) (h : TTe X.K l (fun E' H' Q' => liftEX X.K E' tx σ H' Q') H Q)
    (hN0 : Ng[0]? = some a) (hva : Vis (defScope st) a) (hd : (a == ("__debug__" : Str)) = false := by decide) (hcd : (a == ("__classdict__" : Str)) = false := by decide) :
    codeAny (model X.prog X.w) X.A (.call (.ref g) ⟨[.ref f], []⟩) (CR C8.CX0 X.stack X.prog X.w H s Q C8.E0) s := by
  obtain ⟨oc, od, kV, doc, pm, an, cdv, ct, osl, rfl, lk, hcd2⟩ := D.fn.ex
  refine LamX.run_ofS (N := Ng) (ps := [a]) (us := [.ref f]) (vs := [.ref f]) (k := k + 1) lk hcd2 Sg hr J.env0 (D.bd s [.ref f] J.kIn rfl) (.cons rfl .nil) rfl fun hr1 => ?_
  obtain ⟨t, h1, h2⟩ := err_gives (Ed cdv) (fun f => by simp [L2.start]) f c' s H Q (fun E' H' Q' => H' f = some (LmO f (LamN X) T (cloFrom X.env.cells T.scope.names []) dV c') ∧ DvAt H' T dV ∧ liftEX X.K E' tx σ H' Q')
    (fun W pn xe E' p1 p2 tk hW => act_lam (i := 0) J C.p C.b tk hW hr1 (fun A outer s H hr2 => C.body A outer s H E' f c' hr2) hN0 hva hd hcd) hc ⟨hf, hD, h⟩
  exact ⟨t, h1.nox, h2⟩
theorem told_lift {σ : L2.St} {H : Hp} {Q : VK} {r : Option Addr} {G : Hp} {ρ : List PV} {P : Dt → Prop} (E : EnvR X.K r G H σ ρ) (p : xTold X.K l tx ρ P) (q : ∀ s G' H', P (.str s) → Grow X.K r G H G' H' → Q (.str s) H') :
    TTe X.K l (fun E' H' Q' => liftEX X.K E' tx σ H' Q') H Q := by
  refine ⟨r, G, ρ, _, _, E, p, fun v d G' H' p' W' R' => q _ _ _ p' W', ?_⟩
  rintro xx cls d G' H' ⟨s2, e1, e2⟩ W' ⟨e3, _⟩
  exact ⟨xx.c, s2, e3, e1, q _ _ _ e2 W'⟩
/-- _law_error(c), c a name whose value is a lambda of the def X, in a frame Z of X's -/
def tErrV (X : Cx) (k : Nat) (l : List (Addr × Str)) (σ : L2.St) (j : Nat) : TE := fun σ2 H Q => ∃ f tx r G ρ P, σ2[j]? = some (some (.ref f)) ∧ EnvR X.K r G H σ ρ ∧ CloAt X k tx G H f ∧ xTold X.K l tx ρ P ∧ ∀ s G' H', P (.str s) → Grow X.K r G H G' H' → Q (.str s) H'
theorem pe_errV {pinsX : List (Addr × Obj)} {σ : L2.St} {s0 : Shared} {H0 : Hp} {scope : Scope} {ce : Env} {fp : List Addr} {c : Str} {j : Nat} {p pc pos : Pos}
    (back : ∀ pins' σ' H' s', Inv (X.blk s0 H0 scope ce fp) pins' σ' H' s' → Inv X pinsX σ H' s')
    (D : Df X.K X.mg x st [a] g fd) (Ed : ∀ cdg : Value, ErrDef X Ng x (defScope st) g cdg (defBody st) a l) (Sg : FnScope Ng [a] (defScope st)) (hr : Room (k + 2) X.A)
    (hg : Gl (X.blk s0 H0 scope ce fp) x) (hNc : X.N[j]? = some c) (hvc : Vis ce.scope c) (hN0 : Ng[0]? = some a := by rfl) (hva : Vis (defScope st) a := by first | exact Or.inl rfl | exact Or.inr (Or.inl rfl))
    (hdb : (x == ("__debug__" : Str)) = false := by decide) (hd : (a == ("__debug__" : Str)) = false := by decide) (hcd : (a == ("__classdict__" : Str)) = false := by decide) (hcb : (c == ("__debug__" : Str)) = false := by decide) (hcc : (c == ("__classdict__" : Str)) = false := by decide)
    (hst : starEach [.Name c pc] ce = (false, eval (.Name c pc) ce) :: starEach [] ce := by rfl) :
    PE (X.blk s0 H0 scope ce fp) (.Call (.Name x p) [.Name c pc] [] pos) (tErrV X k l σ j) := by
  refine ⟨fun pins s σ2 H Q I ⟨f, tx, r, G, ρ, P, e1, E, ⟨T, C, c', dV, h1, h2, h3⟩, pr, q⟩ => ?_⟩
  have kp : PySem.W.keepIn (X.blk s0 H0 scope ce fp).K (.ref g) = true := D.fn.kp
  refine wpAny_Call_Name_kw (ld_glob I hg D.gl ?_ hdb)
  refine PySem.W.callWith_K (h₀ := X.base) I.ok.mod.kin kp ?_ (by rfl) (by rfl)
  show wpAny _ _ (spliced (backTo pos (starEach [.Name c pc] ce))) _ _ s
  rw [hst]
  refine Calls.spliced_cons (thn ((pe_var (X := X.blk s0 H0 scope ce fp) (pos := pc) (i := j) hNc hvc hcb hcc).run pins s σ2 H (fun v H1 => v = .ref f ∧ H1 = H) I ⟨.ref f, e1, rfl, rfl⟩) fun u s1 ⟨v, H1, I1, r1, e2, e3⟩ => Calls.spliced_nil ⟨I1.kIn, ?_⟩)
  subst e2 e3
  cases (show u = Value.ref f from r1)
  have rc := err_run (back _ _ _ _ I1) D Ed Sg hr C h1 h2 (h3.same E.st.gh) (told_lift E pr q) hN0 hva hd hcd
  refine wpAny_call (codeAny_mono rc fun res s2 hres => ?_)
  match res, hres with
  | .ok (.ret u), hres => exact I1.after hres
  | .ok .next, hres => exact hres.elim
  | .ok .brk, hres => exact hres.elim
  | .ok .cont, hres => exact hres.elim
  | .error e, hres => exact (show False from hres).elim
end
/-! ### a comprehension whose test never comes true -/
section
variable {X : Cx}
theorem pi_refs {tg e : Expr} {te : TE} (he : PE X e te) : PI X tg e (fun σ H R => te σ H fun v H1 => ∃ b xs, v = .ref b ∧ H1 b = some (.lst xs) ∧ R (Itl X.K b) H1) := by
  refine ⟨fun pins s σ H R I h => ?_⟩
  refine thn (he.run pins s σ H _ I h) fun u s' ⟨v, H', I', rv, b, xs, e1, e2, q⟩ => ?_
  subst e1
  cases (show u = Value.ref b from rv)
  obtain ⟨its, _, pl, hz⟩ := I'.list (SqL.of e2)
  exact wpAny_pyIter_list pl.isList ⟨_, [s'.heap.objs.size], _, _, H', rfl, I'.kept (t' := s'.toks) fun b o e => Heap.get?_push_of_some _ e, turn_list _ _, ⟨_, Heap.get?_push_size _ rfl, rfl, rfl⟩, one_fp I', q⟩
/-- what the turns ask: W what is known before the i-th -/
def tNo (wi : TI) (g : TG) (tt : L2.St → TT) (vs : List Nat) : TE := fun σ H Q => wi σ H fun J H1 => ∀ D, H1 D = none → ∃ (n : Nat) (W : Nat → Hp → Prop), W 0 (upd H1 D (.lst [])) ∧ ∀ i H2, W i H2 →
  (J.stop i H2 ∧ Q (.ref D) H2) ∨ (J.go i H2 ∧ i < n ∧ ∀ x H3, J.yld i H2 x H3 → g x (wipe σ vs) H3 fun σ4 H4 => wipe σ4 vs = wipe σ vs ∧ tt σ σ4 H4 fun b H5 => b = false ∧ W (i + 1) H5)
theorem pe_no {elt tg iter test : Expr} {scope : Scope} {own : List (Str × Nat)} {pos : Pos} {wi : TI} {g : TG} {tt : L2.St → TT} (hc : X.calm = true) (hN : X.N.Nodup) (hi : PI X tg iter wi) (ok : BlkOk X.N X.env.scope scope own)
    (hg : ∀ (s : Shared) (H : Hp) (C : Addr) (cl : List (Str × Addr)) (fp : List Addr), PG (X.blk s H scope (compEnvC scope cl C X.env) fp) tg g)
    (ht : ∀ (pins : List (Addr × Obj)) (σ : L2.St) (s : Shared) (H : Hp) (C : Addr) (cl : List (Str × Addr)) (fp : List Addr), (∀ pins' σ' H' s', Inv (X.blk s H scope (compEnvC scope cl C X.env) fp) pins' σ' H' s' → Inv X pins σ H' s') →
      PT (X.blk s H scope (compEnvC scope cl C X.env) fp) test (tt σ)) (hs : ∀ x, foldedSetIterable iter X.env x = pure x := by intro _; rfl) :
    PE X (.ListComp elt [⟨tg, iter, [test], 0⟩] scope pos) (tNo wi g tt (own.map (·.2))) := by
  refine ⟨fun pins s σ H Q I h => ?_⟩
  rw [eval_ListComp]
  refine wpAny_comprehension_free (use := none) rfl hs (closure_ok fun y hy e => I.ok.has _ (ok.free y hy e)) ok.kind (fun y hy e => by rw [ok.uniq y hy, e]) (thn (hi.run pins s σ H _ I h) fun xv s1 hx => thn hx fun itv s2 hp => ?_)
  obtain ⟨it, fp, tn, J, H2, rfl, J2, T, t2, f2, q⟩ := hp
  refine wpAny_newObj_type (newEnv_comp ?_) (by show 0 ≤ sizeLine; decide)
  have inside : ∀ b ∈ fp, b < s2.heap.objs.size := fun b hb => by
    obtain ⟨o, e, _⟩ := T.obj _ _ t2 b hb
    exact Heap.lt_size e
  obtain ⟨n, W, w0, turn⟩ := q s2.heap.objs.size (J2.hok.fresh (Nat.le_refl _))
  have J3 : Inv X pins σ (upd H2 s2.heap.objs.size (.lst [])) { s2 with heap := s2.heap.push { cls := .type "list", data := .seq ([] : List Value).toArray } } :=
    J2.laid (t' := s2.toks) (fun b o e => Heap.get?_push_of_some _ e) (Nat.le_refl _) ⟨Nat.zero_le _, [], 0, .nil, Heap.get?_push_size _ rfl⟩
  have t3 : tn 0 (s2.heap.push { cls := .type "list", data := .seq ([] : List Value).toArray }) := T.keep _ _ _ t2 fun b _ o e => Heap.get?_push_of_some _ e
  have fpo : ∀ b ∈ fp, FpOk X pins (upd H2 s2.heap.objs.size (.lst [])) b ∧ b < (s2.heap.push { cls := .type "list", data := .seq ([] : List Value).toArray }).objs.size := fun b hb => by
    refine ⟨⟨?_, (f2 b hb).2⟩, by rw [Heap.size_push]; exact Nat.lt_succ_of_lt (inside b hb)⟩
    rw [upd_ne (Nat.ne_of_lt (inside b hb))]
    exact (f2 b hb).1
  generalize hs3 : ({ s2 with heap := s2.heap.push { cls := .type "list", data := .seq ([] : List Value).toArray } } : Shared) = s3 at J3
  have e3 : s2.heap.push { cls := .type "list", data := .seq ([] : List Value).toArray } = s3.heap := by rw [← hs3]
  rw [e3] at t3 fpo
  have B0 := block_start J3 ok hN fpo
  generalize hD : s2.heap.objs.size = D at J3 w0 turn fpo B0
  have sub : ∀ pins' σ' H' s', Inv (X.blk s3 (upd H2 D (.lst [])) scope (compEnvC scope (cellsFrom (s3.heap.objs.size + 1) scope.names (cloFrom X.env.cells scope.names [])) s3.heap.objs.size X.env) fp) pins' σ' H' s' → Inv X pins σ H' s' :=
    fun _ _ _ _ I6 => J3.call' (ch := fp) I6.os I6.base I6.hok I6.bare fun b hb => ⟨(fpo b hb).1.2.2.2.1, (fpo b hb).1.2.1, (fpo b hb).1.2.2.2.2.1, (fpo b hb).1.2.2.2.2.2⟩
  have pg := hg s3 (upd H2 D (.lst [])) s3.heap.objs.size (cellsFrom (s3.heap.objs.size + 1) scope.names (cloFrom X.env.cells scope.names [])) fp
  have pt := pts_one (ht pins σ s3 (upd H2 D (.lst [])) s3.heap.objs.size (cellsFrom (s3.heap.objs.size + 1) scope.names (cloFrom X.env.cells scope.names [])) fp sub)
  show codeAny (model X.prog X.w) X.A (.compStart (.ListComp elt [⟨tg, iter, [test], 0⟩] scope pos) 0 (.ref it) (.ref D) (compEnvC scope (cellsFrom (s3.heap.objs.size + 1) scope.names (cloFrom X.env.cells scope.names [])) s3.heap.objs.size X.env))
    (compPost (model X.prog X.w) X.A X.xe none (EP X pins σ Q) (.ref D) s3.heap.objs.size) { s3 with heap := pushCells (s3.heap.push { cls := .type "dict", data := .dict #[] }) scope.names }
  have t4 : tn 0 ({ s3 with heap := pushCells (s3.heap.push { cls := .type "dict", data := .dict #[] }) scope.names } : Shared).heap := T.keep _ _ _ t3 fun b _ o e => pushCells_keeps _ _ _ _ (Heap.get?_push_of_some _ e)
  have loc0 : (compEnvC scope (cellsFrom (s3.heap.objs.size + 1) scope.names (cloFrom X.env.cells scope.names [])) s3.heap.objs.size X.env).locals = s3.heap.objs.size := rfl
  generalize compEnvC scope (cellsFrom (s3.heap.objs.size + 1) scope.names (cloFrom X.env.cells scope.names [])) s3.heap.objs.size X.env = ce at B0 sub pg pt loc0 ⊢
  generalize ({ s3 with heap := pushCells (s3.heap.push { cls := .type "dict", data := .dict #[] }) scope.names } : Shared) = s4 at B0 t4 ⊢
  have nofp : ∀ b ∈ fp, (upd H2 D (.lst [])) b = none := fun b hb => (fpo b hb).1.1
  generalize upd H2 D (.lst []) = H4 at J3 B0 sub pg pt nofp w0 fpo
  have stat : ∀ {σ' : L2.St} {H' : Hp} {s' : Shared}, Inv (X.blk s3 H4 scope ce fp) [] σ' H' s' → (∀ b ∈ fp, H' b = none) → ∀ b ∈ fp, FpOk (X.blk s3 H4 scope ce fp) [] H' b := fun {σ' H' s'} I' hn b hb =>
    ⟨hn b hb, (I'.ok.exf b hb).1, I'.ok.exfs b hb, .inl hb, fun x c e => (I'.ok.exf b hb).2 x c e, fun p hp => by cases (show p ∈ ([] : List (Addr × Obj)) ++ [] from hp)⟩
  have loop : codeAny (model X.prog X.w) X.A (.compLoop (.ListComp elt [⟨tg, iter, [test], 0⟩] scope pos) 0 (.ref it) (.ref D) ce) (compPost (model X.prog X.w) X.A X.xe none (EP X pins σ Q) (.ref D) s3.heap.objs.size) s4 := by
    refine compLoop_any (fun m s' => ∃ i H', m = n - i ∧ Inv (X.blk s3 H4 scope ce fp) [] (wipe σ (own.map (·.2))) H' s' ∧ tn i s'.heap ∧ (∀ b ∈ fp, H' b = none) ∧ W i H') ?_ (n - 0) ⟨0, H4, rfl, B0, t4, nofp, w0⟩
    rintro m s5 ⟨i, H5, rfl, I5, t5, n5, w5⟩
    rcases turn i H5 w5 with ⟨stop, qq⟩ | ⟨go, hlt, step⟩
    · refine thnF (T.done (X.blk s3 H4 scope ce fp) rfl rfl rfl hc i [] s5 _ H5 (fun _ _ => False) I5 (stat I5 n5) t5 stop) fun r s6 ⟨hr, I6⟩ => ?_
      subst hr
      have I7 := sub _ _ _ _ I6
      have nC : H5 s3.heap.objs.size = none := loc0 ▸ (show H5 ce.locals = none from I6.free)
      obtain ⟨m, hn, _⟩ := I6.loc
      have hn : s6.heap.Ns s3.heap.objs.size m := loc0 ▸ (show s6.heap.Ns ce.locals m from hn)
      obtain ⟨f0, f1, f2, f3, f4, f5⟩ := J3.fpOk (Nat.le_refl _) nC
      refine ⟨m, hn, fun h' sb => ⟨.ref D, H5, I7.turned (t' := s6.toks) (fun b o hb e => (sb.2 b hb).trans e) f0 f1 f3 f4 f5, rfl, qq⟩⟩
    · refine thnF (T.item (X.blk s3 H4 scope ce fp) rfl rfl rfl hc i [] s5 _ H5 (fun _ _ => False) I5 (stat I5 n5) t5 go) fun r s6 ⟨u, hr, h6⟩ => ?_
      subst hr
      refine thnF h6 fun _ s7 ⟨x, H7, I7, r7, y7, t7, n7⟩ => ?_
      refine thnF (pg.run _ s7 _ H7 x u _ (I7.pinned (stat I7 n7) (T.obj _ _ t7)) r7 (step x H7 y7)) fun _ s8 ⟨σ8, H8, I8, hw, q8⟩ => ?_
      refine thnF (pt.run _ s8 σ8 H8 _ I8 q8) fun b s9 ⟨H9, I9, hb, w9⟩ => ?_
      subst hb
      simp only [Bool.false_eq_true, if_false]
      have held : ∀ b ∈ fp, ∀ o, s7.heap.get? b = some o → s9.heap.get? b = some o ∧ H9 b = none := fun b hb o e =>
        ⟨(I9.pin (b, o) (List.mem_append_right _ (List.mem_append_right _ (mem_pinsAt hb e)))).1, (I9.pin (b, o) (List.mem_append_right _ (List.mem_append_right _ (mem_pinsAt hb e)))).2.1⟩
      refine ⟨n - (i + 1), by omega, i + 1, H9, rfl, (I9.unpinned (pins := [])).weak (by rw [← hw, wipe_length]) fun j v e => ?_, T.keep _ _ _ t7 fun b hb o e => (held b hb o e).1, fun b hb => ?_, w9⟩
      · rw [← hw] at e
        exact (wipe_some e).1
      · obtain ⟨o, e, _⟩ := T.obj _ _ t7 b hb
        exact (held b hb o e).2
  exact codeAny_compStart_list loop (T.self X.A 0 _ _ _ t4 loop)
end
/-! ### lists of lambdas -/
/-- the values vs are lambdas with the readings txs -/
def Clos (X : Cx) (k : Nat) (txs : List PT2) (G H : Hp) (vs : List V) : Prop := Paired (fun v tx => ∃ f, v = .ref f ∧ CloAt X k tx G H f) vs txs
theorem clos_mono {X : Cx} {k : Nat} {G H G' H' : Hp} (g : Same G G') (t : TbGo X.K H H') : ∀ {txs : List PT2} {vs : List V}, Clos X k txs G H vs → Clos X k txs G' H' vs
  | _, _, .nil => .nil
  | _, _, .cons ⟨f, e, h⟩ r => .cons ⟨f, e, h.mono g t⟩ (clos_mono g t r)
theorem clos_app {X : Cx} {k : Nat} {G H : Hp} : ∀ {txs tys : List PT2} {vs ws : List V}, Clos X k txs G H vs → Clos X k tys G H ws → Clos X k (txs ++ tys) G H (vs ++ ws)
  | _, _, _, _, .nil, s => s
  | _, _, _, _, .cons a b, s => .cons a (clos_app b s)
theorem clos_get {X : Cx} {k : Nat} {G H : Hp} : ∀ {txs : List PT2} {vs : List V} {i : Nat} {v : V}, Clos X k txs G H vs → vs[i]? = some v → ∃ tx f, tx ∈ txs ∧ v = .ref f ∧ CloAt X k tx G H f
  | _, _, _, _, .nil, e => by simp at e
  | _, _, 0, _, .cons ⟨f, e1, h⟩ _, e => by simp at e; subst e; exact ⟨_, f, List.mem_cons_self .., e1, h⟩
  | _, _, i + 1, _, .cons _ t, e => by
    obtain ⟨tx, f, h1, h2, h3⟩ := clos_get (i := i) t (by simpa using e)
    exact ⟨tx, f, List.mem_cons_of_mem _ h1, h2, h3⟩
/-- a slot that holds a list of lambdas -/
def closP (X : Cx) (k : Nat) (txs : List PT2) : Fg → Hp → Hp → Option V → Prop := fun _ G H o => ∃ a vs, o = some (.ref a) ∧ G a = some (.lst vs) ∧ Clos X k txs G H vs
abbrev CRP := List PT2 → Fg → Hp → Hp → Option V → Prop
abbrev PTC := List PV → (List PT2 → Prop) → Prop
def liftCl (X : Cx) (k : Nat) (t : PTC) : TE := fun σ H Q => ∃ (r : Option Addr) (G : Hp) (ρ : List PV) (P : List PT2 → Prop), EnvR X.K r G H σ ρ ∧ t ρ P ∧ ∀ a vs txs G' H', P txs → Grow X.K r G H G' H' → G' a = some (.lst vs) → Clos X k txs G' H' vs → Q (.ref a) H'
def DCl (X : Cx) (k : Nat) (e : Expr) (t : PTC) : Prop := PE X e (liftCl X k t)
/-- one lambda; several -/
def liftL (X : Cx) (k i : Nat) (P : Addr) (tx : PT2) : TE := fun σ H Q => ∃ (r : Option Addr) (G : Hp) (ρ : List PV), EnvR X.K r G H σ ρ ∧ ρ[i]? = some (.fz (tabG P)) ∧ ∀ f G' H', Grow X.K r G H G' H' → CloAt X k tx G' H' f → Q (.ref f) H'
def DL (X : Cx) (k i : Nat) (P : Addr) (e : Expr) (tx : PT2) : Prop := PE X e (liftL X k i P tx)
def liftLs (X : Cx) (k i : Nat) (P : Addr) (txs : List PT2) : TA := fun σ H Q => ∃ (r : Option Addr) (G : Hp) (ρ : List PV), EnvR X.K r G H σ ρ ∧ ρ[i]? = some (.fz (tabG P)) ∧ ∀ vs G' H', Grow X.K r G H G' H' → Clos X k txs G' H' vs → Q vs H'
def DLs (X : Cx) (k i : Nat) (P : Addr) (es : List Expr) (txs : List PT2) : Prop := PA X es (liftLs X k i P txs)
def cLst (i : Nat) (P : Addr) (txs : List PT2) : PTC := fun ρ Q => ρ[i]? = some (.fz (tabG P)) ∧ txs.length ≤ 1000 ∧ Q txs
def cVar (cr : CRP) (j : Nat) : PTC := fun ρ Q => ∃ txs, ρ[j]? = some (.fz (cr txs)) ∧ Q txs
def cAdd (t u : PTC) : PTC := fun ρ Q => t ρ fun xs => u ρ fun ys => xs.length + ys.length ≤ 1000 ∧ Q (xs ++ ys)
def sClos (j : Nat) (cr : CRP) (t : PTC) : PTS := fun D ρ => t ρ fun txs => D.nx (ρ.set j (.fz (cr txs)))
/-- [c for c in e if _law_error(c) != 'w']: all say w, nothing is left -/
def dNo (K : Fg) (l : List (Addr × Str)) (w : Str) (t : PTC) : PT0 := fun ρ P => t ρ fun txs => (∀ tx ∈ txs, xTold K l tx ρ fun d => d = .str w) ∧ P (.list [])
section
variable {X : Cx} {k i : Nat} {P : Addr} {e e2 : Expr} {es : List Expr} {tx : PT2} {txs : List PT2} {t u : PTC} {pos p p1 p2 p3 p4 lpos : Pos}
theorem grow_new {K : Fg} {r : Option Addr} {G H : Hp} {f : Addr} {φ : Heap → Prop} (S : Start K r G H) (n : H f = none) : Grow K r G H G (upd H f (.ext φ)) :=
  ⟨Same.refl _, fun b o _ _ h => (upd_ne (ne_of_none h n)).trans h, fun b o h => (upd_ne (ne_of_none (S.gh _ _ h) n)).trans (S.gh _ _ h), fun _ _ _ h => h, fun a h => by
    have q := (S.row a h).2
    obtain ⟨_, _, _, _, _, h1, _⟩ := id q
    exact q.at (Same.refl _) (upd_ne (ne_of_none h1 n)), .upd fun u h => (by rw [n] at h; cases h), fun _ _ h => h⟩
theorem made_none {H H1 : Hp} {c' : Addr} {q : Str} {b : Addr} (m : Made H P c' q H1) (n : H1 b = none) : H b = none := by
  rcases m with rfl | ⟨ps, more, hP, nC, rfl⟩
  · exact n
  · by_cases z : b = c'
    · subst z; rw [upd_same] at n; cases n
    · rw [upd_ne z] at n
      by_cases y : b = P
      · subst y; rw [upd_same] at n; cases n
      · rwa [upd_ne y] at n
theorem dl_lam {params : Arguments} {body : Expr} {scope : Scope} {c : Addr} (TB : LamX.TabB X.base X.mg c P) (hcode : X.env.code = .ref c) (hq : LamN X = nmOf X.K P) (C : CloOk X k ⟨params, body, scope, []⟩ tx) (hdef : defaultsOf params X.env = ([], []) := by rfl) :
    DL X k i P (.Lambda params body scope lpos) tx := ⟨fun pins s σ H Q I ⟨r, G, ρ, E, e1, q⟩ => by
  have T0 := E.tab e1
  refine lam_new (T := ⟨params, body, scope, []⟩) I TB hcode hq T0 hdef (C.p.has I.ok) fun f c' H1 s1 m T1 nf hc J => ?_
  have W1 := Made.grow m T1 E.st
  have W2 := grow_new (W1.start E.st) (φ := fun h => ∃ (doc pm ctv : Value), h.get? f = some (PySem.W.kdv_obj "<lambda>" (nmOf X.K P) params (.expr body) scope (cloFrom X.env.cells scope.names []) .none doc pm c' ctv)) nf
  refine ⟨.ref f, _, J, rfl, q f G _ (W1.trans W2) ⟨_, C, c', .none, ?_, ?_, .inl ⟨rfl, rfl⟩⟩⟩
  · rw [hq]; exact upd_same
  · rw [hq]; exact (upd_ne (ne_of_none hc nf)).trans hc⟩
theorem dl_lamD {params : Arguments} {body : Expr} {scope : Scope} {c : Addr} {n : Int} {jj : Nat} {dp : Pos} (TB : LamX.TabB X.base X.mg c P) (hcode : X.env.code = .ref c) (hq : LamN X = nmOf X.K P) (C : CloOk X k ⟨params, body, scope, [.int n]⟩ tx) (hd : params.defaults = [.Constant (.int n) jj dp] := by rfl) (hk : params.kw_defaults = [] := by rfl) :
    DL X k i P (.Lambda params body scope lpos) tx := ⟨fun pins s σ H Q I ⟨r, G, ρ, E, e1, q⟩ => by
  have T0 := E.tab e1
  refine lam_newD (T := ⟨params, body, scope, [.int n]⟩) I TB hcode hq T0 hd hk (C.p.has I.ok) fun D f c' H1 s1 nD m T1 nf hc J => ?_
  have W0 := E.st.lay (o := .tup [.int n]) nD
  have W1 := Made.grow m T1 (W0.start E.st)
  have W2 := grow_new (W1.start (W0.start E.st)) (φ := fun h => ∃ (doc pm ctv : Value), h.get? f = some (PySem.W.kdv_obj "<lambda>" (nmOf X.K P) params (.expr body) scope (cloFrom X.env.cells scope.names []) (.ref D) doc pm c' ctv)) nf
  refine ⟨.ref f, _, J, rfl, q f _ _ (W0.trans (W1.trans W2)) ⟨_, C, c', .ref D, ?_, ?_, .inr ⟨D, _, rfl, rfl, upd_same⟩⟩⟩
  · rw [hq]; exact upd_same
  · rw [hq]; exact (upd_ne (ne_of_none hc nf)).trans hc⟩
theorem dls_nil : DLs X k i P [] [] := ⟨fun pos pins s σ H Q I ⟨r, G, ρ, E, e1, q⟩ => pa_nil.run pos pins s σ H Q I (q [] G H E.st.grow .nil)⟩
theorem dls_cons (h1 : DL X k i P e tx) (h2 : DLs X k i P es txs) (hs : starEach (e :: es) X.env = (false, eval e X.env) :: starEach es X.env := by rfl) : DLs X k i P (e :: es) (tx :: txs) :=
  ⟨fun pos pins s σ H Q I ⟨r, G, ρ, E, e1, q⟩ => (pa_cons h1 h2 hs).run pos pins s σ H Q I ⟨r, G, ρ, E, e1, fun f G1 H1 W1 c1 => ⟨r, G1, ρ, E.grow W1, e1, fun vs G2 H2 W2 c2 => q _ G2 H2 (W1.trans W2) (.cons ⟨f, rfl, c1.mono W2.g W2.t⟩ c2)⟩⟩⟩
theorem dc_lst (h : DLs X k i P es txs) : DCl X k (.List es pos) (cLst i P txs) := PE.weak (pe_lst h) fun σ H Q ⟨r, G, ρ, R, E, ⟨e1, hz, p⟩, q⟩ => ⟨r, G, ρ, E, e1, fun vs G1 H1 W1 c1 => by
  refine ⟨by rw [Paired.length c1]; exact Nat.le_trans hz (by decide), fun a ha => ?_⟩
  have W2 := (W1.start E.st).lay (o := .lst vs) ha
  exact q a vs txs _ _ p (W1.trans W2) upd_same (clos_mono W2.g W2.t c1)⟩
theorem dc_var (j : Nat) {x : Str} (hN : X.N[j]? = some x := by rfl) (hv : Vis X.env.scope x := by first | exact Or.inl rfl | exact Or.inr (Or.inl rfl) | exact Or.inr (Or.inr rfl)) (hd : (x == ("__debug__" : Str)) = false := by decide) (hcd : (x == ("__classdict__" : Str)) = false := by decide) :
    DCl X k (.Name x pos) (cVar (closP X k) j) := PE.weak (pe_var hN hv hd hcd) fun σ H Q ⟨r, G, ρ, R, E, ⟨txs, e1, p⟩, q⟩ => by
  obtain ⟨o, eo, hs⟩ := E.slot j _ e1
  obtain ⟨a, vs, rfl, ga, c⟩ := hs G H (Same.refl _) (.refl _)
  exact ⟨.ref a, eo, q a vs txs G H p E.st.grow ga c⟩
theorem dc_add (h1 : DCl X k e t) (h2 : DCl X k e2 u) : DCl X k (.BinOp e .Add e2 pos) (cAdd t u) := PE.weak (pe_op op_cat h1 h2) fun σ H Q ⟨r, G, ρ, R, E, p, q⟩ =>
  ⟨r, G, ρ, _, E, p, fun a vs txs G1 H1 p1 W1 ga c1 => ⟨r, G1, ρ, _, E.grow W1, p1, fun b ws tys G2 H2 p2 W2 gb c2 => by
    refine ⟨a, b, vs, ws, rfl, rfl, W2.gh _ _ (W2.g _ _ ga), W2.gh _ _ gb, ?_, fun d hd => ?_⟩
    · rw [Paired.length c1, Paired.length c2]; exact Nat.le_trans p2.1 (by decide)
    · have W := (W2.start (W1.start E.st)).lay (o := .lst (vs ++ ws)) hd
      exact q d _ _ _ _ p2.2 (W1.trans (W2.trans W)) upd_same (clos_mono W.g W.t (clos_app (clos_mono W2.g W2.t c1) c2))⟩⟩
theorem ds_clos (j : Nat) {x : Str} {pos' : Pos} (hN : X.N.Nodup) (he : DCl X k e t) (hi : X.N[j]? = some x := by rfl) (hx : Loc X.env.scope x := by first | exact Or.inl rfl | exact Or.inr rfl) (hs : swapsWith e (some (.Name x pos')) pos.line X.env = pure false := by rfl) (hf : X.fn x = true ∨ X.env.scope.names.lookup x = some .local := by first | exact .inl rfl | exact .inr rfl) :
    DS X (.Assign [.Name x pos'] e pos) (sClos j (closP X k) t) := PS.weak (ps_set hN hi hx he hs hf) fun Dn σ H ⟨r0, G0, H0, r, G, ρ, R, E, p, q⟩ =>
  ⟨r, G, ρ, _, E.env, p, fun a vs txs G1 H1 p1 W1 ga c1 => q.nx _ _ _ _ _ p1 ((E.grow W1).setP (fun G' H' g t => ⟨a, vs, rfl, g _ _ ga, clos_mono g t c1⟩) (fun _ z => nomatch z))⟩
theorem de_no {x a c : Str} {g : Addr} {l : List (Addr × Str)} {st : Stmt} {fd : FuncData} {Ng : List Str} {scope : Scope} {w : Str} {j jj : Nat} {pe pt pc pp : Pos} (hc : X.calm = true) (hN : X.N.Nodup) (he : DCl X k e t)
    (D : Df X.K X.mg x st [a] g fd) (Ed : ∀ cdg : Value, ErrDef X Ng x (defScope st) g cdg (defBody st) a l) (Sg : FnScope Ng [a] (defScope st)) (hr : Room (k + 2) X.A) (ok : blkC X.N X.env.scope scope [(c, j)] = true)
    (hg : ∀ (s : Shared) (H : Hp) (C : Addr) (cl : List (Str × Addr)) (fp : List Addr), Gl (X.blk s H scope (compEnvC scope cl C X.env) fp) x := by intros; rfl) (hlc : ∀ (C : Addr) (cl : List (Str × Addr)), (compEnvC scope cl C X.env).scope.names.lookup c = some .local := by intros; rfl)
    (hNc : X.N[j]? = some c := by rfl) (hN0 : Ng[0]? = some a := by rfl) (hva : Vis (defScope st) a := by first | exact Or.inl rfl | exact Or.inr (Or.inl rfl))
    (hdb : (x == ("__debug__" : Str)) = false := by decide) (hd : (a == ("__debug__" : Str)) = false := by decide) (hcd : (a == ("__classdict__" : Str)) = false := by decide) (hcb : (c == ("__debug__" : Str)) = false := by decide) (hcc : (c == ("__classdict__" : Str)) = false := by decide)
    (hst : ∀ ce : Env, starEach [.Name c pc] ce = (false, eval (.Name c pc) ce) :: starEach [] ce := by intros; rfl) (hs : ∀ x, foldedSetIterable e X.env x = pure x := by intro _; rfl) :
    DE X (.ListComp (.Name c pe) [⟨.Name c pt, e, [.Compare (.Call (.Name x p) [.Name c pc] [] pp) [.NotEq] [.Constant (.str w) jj p2] p3], 0⟩] scope pos) (dNo X.K l w t) := by
  have main := pe_no (test := .Compare (.Call (.Name x p) [.Name c pc] [] pp) [.NotEq] [.Constant (.str w) jj p2] p3) (tg := .Name c pt) (elt := .Name c pe) (pos := pos) (own := [(c, j)]) (g := gName j) (tt := fun σ => tTest (tOp rNe (tErrV X k l σ j) (tC (.str w)))) hc hN (pi_refs he) (blkOk_by ok)
    (fun s H C cl fp => pg_name hN hNc (.inl (hlc C cl)) (.inr (hlc C cl)))
    (fun pins σ s H C cl fp back => pt_cmpR op_ne (pe_errV (p := p) (pc := pc) (pos := pp) back D Ed Sg hr (hg s H C cl fp) hNc (.inl (hlc C cl)) hN0 hva hdb hd hcd hcb hcc (hst _)) pe_str (nomark _)) hs
  refine ⟨fun pins s σ H Q I ⟨r, G, ρ, R, E, p, q⟩ => main.run pins s σ H Q I ⟨r, G, ρ, _, E, p, fun a0 vs txs G1 H1 p1 W1 ga c1 => ⟨a0, vs, rfl, W1.gh _ _ ga, fun d hd => ?_⟩⟩⟩
  have W2 := (W1.start E.st).lay (o := .lst []) hd
  have hj : j < σ.length := by
    rw [I.len]
    exact (List.getElem?_eq_some_iff.mp hNc).1
  refine ⟨vs.length, fun i H3 => i ≤ vs.length ∧ ∃ G3, Grow X.K r (upd G1 d (.lst [])) (upd H1 d (.lst [])) G3 H3, ⟨Nat.zero_le _, _, (W2.start (W1.start E.st)).grow⟩, ?_⟩
  rintro i H3 ⟨hi, G3, W3⟩
  have W := W1.trans (W2.trans W3)
  have hv : H3 a0 = some (.lst vs) := W3.gh _ _ (W3.g _ _ (W2.g _ _ ga))
  by_cases z : i < vs.length
  · refine .inr ⟨⟨vs, vs[i], SqL.of hv, by simp [z]⟩, z, ?_⟩
    rintro v _ ⟨rfl, hx⟩
    obtain ⟨tx, f, m1, rfl, m3⟩ := clos_get c1 (hx vs (SqL.of hv))
    refine ⟨by simp [wipe, List.set_set], ?_⟩
    refine ⟨f, tx, r, G3, ρ, fun x => x = .str w, ?_, E.grow W, m3.mono ((W2.trans W3).g) ((W2.trans W3).t), p1.1 tx m1, ?_⟩
    · simp [wipe, hj]
    · intro w' G' H' e W'
      cases e
      exact ⟨rfl, false, by simp, rfl, z, G', W3.trans W'⟩
  · have : i = vs.length := by omega
    subst this
    exact .inl ⟨⟨vs, SqL.of hv, Nat.le_refl _⟩, q _ _ _ _ p1.2 W (.lst (W3.g _ _ upd_same) .nil)⟩
end
end PD
/-! PXg: _law_error(lambda a=0: ..); raise C(f'..'). -/
namespace PD
open PySem PySem.Spec PyProof.Rows L2
section
variable {X : Cx} {x a : Str} {g : Addr} {k i : Nat} {l : List (Addr × Str)} {st : Stmt} {fd : FuncData} {Ng : List Str} {tx : PT2} {P : Addr} {e : Expr} {p pos : Pos}
/-- _law_error(e), e a lambda of any kind -/
theorem de_errL (h : DL X k i P e tx) (D : Df X.K X.mg x st [a] g fd) (Ed : ∀ cdg : Value, ErrDef X Ng x (defScope st) g cdg (defBody st) a l) (Sg : FnScope Ng [a] (defScope st)) (hr : Room (k + 2) X.A)
    (hg : Gl X x := by rfl) (hN0 : Ng[0]? = some a := by rfl) (hva : Vis (defScope st) a := by first | exact Or.inl rfl | exact Or.inr (Or.inl rfl))
    (hdb : (x == ("__debug__" : Str)) = false := by decide) (hd : (a == ("__debug__" : Str)) = false := by decide) (hcd : (a == ("__classdict__" : Str)) = false := by decide) (hst : starEach [e] X.env = (false, eval e X.env) :: starEach [] X.env := by rfl) :
    DE X (.Call (.Name x p) [e] [] pos) (dErr X.K l i P tx) := by
  refine ⟨fun pins s σ H Q I ⟨r, G, ρ, R, E, ⟨ei, p1⟩, q⟩ => ?_⟩
  have kp : PySem.W.keepIn X.K (.ref g) = true := D.fn.kp
  refine wpAny_Call_Name_kw (ld_glob I hg D.gl ?_ hdb)
  refine PySem.W.callWith_K (h₀ := X.base) I.ok.mod.kin kp ?_ hst (by rfl)
  rw [hst]
  show wpAny _ _ (spliced ((false, eval e X.env) :: backTo pos (starEach [] X.env))) _ _ s
  refine Calls.spliced_cons (thn (h.run pins s σ H (fun v H1 => ∃ f G1, v = .ref f ∧ Grow X.K r G H G1 H1 ∧ CloAt X k tx G1 H1 f) I ⟨r, G, ρ, E, ei, fun f G' H' W c => ⟨f, G', rfl, W, c⟩⟩) fun u s1 ⟨v, H1, I1, r1, f, G1, e2, W1, T, C, c', dV, h1, h2, h3⟩ => Calls.spliced_nil ⟨I1.kIn, ?_⟩)
  subst e2
  cases (show u = Value.ref f from r1)
  have rc := err_run (l := l) (Q := Q) I1 D Ed Sg hr C h1 h2 (h3.same W1.gh) (told_lift (E.grow W1) p1 fun s' G' H' p' W' => q (.str s') (.str s') G' H' p' (W1.trans W') (.str _)) hN0 hva hd hcd
  refine wpAny_call (codeAny_mono rc fun res s2 hres => ?_)
  match res, hres with
  | .ok (.ret u), hres => exact I1.after hres
  | .ok .next, hres => exact hres.elim
  | .ok .brk, hres => exact hres.elim
  | .ok .cont, hres => exact hres.elim
  | .error e, hres => exact (show False from hres).elim
end
section
variable {X : Cx} {C : Addr} {bmB : List Value} {B newId initId : String} {x : Str} {e : Expr} {p pos : Pos}
/-- X(e), e one value -/
theorem pmk_own1 {te : TE} (F : ExcBaseFacts B newId initId bmB) (q : PySem.W.excIn X.K C bmB newId = true) (gC : X.mg x = some (.ref C)) (kC : PySem.W.keepIn X.K (.ref C) = true) (r : Raises X (.ref C)) (he : PE X e te) (hg : Gl X x)
    (hs : starEach (e :: []) X.env = (false, eval e X.env) :: starEach [] X.env := by rfl) (hdb : (x == ("__debug__" : Str)) = false := by decide) : PMk X (.Call (.Name x p) [e] [] pos) (fun σ H Q => te σ H fun _ H1 => Q (.ref C) none H1) := by
  intro pins s σ H Q I h
  refine wpAny_Call_Name_kw (ld_glob I hg gC ?_ hdb)
  refine PySem.W.callWith_K (h₀ := X.base) I.ok.mod.kin kC ?_ hs (by rfl)
  rw [hs]
  show wpAny _ _ (spliced ((false, eval e X.env) :: backTo pos (starEach [] X.env))) _ _ s
  refine Calls.spliced_cons (thn (he.run pins s σ H _ I h) fun u s1 ⟨v, H1, I1, r1, q1⟩ => Calls.spliced_nil ⟨I1.kIn, ?_⟩)
  show wpAny _ _ (call (.ref C) [u]) _ _ _
  obtain ⟨bm, N, nm, qn, bs, hdct, sn, sub, ab, col, dd, k0, k1, k2, k3, k5, mN, hC, hN, hni, T⟩ := exc_obj I1.kIn q
  exact wpAny_call_exc_subT F T hC hN hni (fun h' e hm => mk_of I1 hm r q1 (I1.hok.gone hm.new)) (by show 1 ≤ sizeLine; rw [sizeLine_eq]; omega)
/-- raise C(f'm{e}'), e an int -/
def xRaiseF (C : Addr) (m : Str) (te : PT0) : PTX := fun _ R ρ => (Str.empty ++ m).length ≤ sizeLine ∧ te ρ fun d => ∃ i : Int, d = .int i ∧ i.natAbs.log2 < 1920 ∧ (Str.empty ++ m ++ (toString i : Str)).length ≤ sizeLine ∧ R ⟨C, none⟩
theorem dsx_raiseF {W : WX} {m : Str} {j : Nat} {te : PT0} {pos' p2 p3 p4 : Pos} (hc : X.calm = true) (tk : Takes X W) (F : ExcBaseFacts B newId initId bmB) (q : PySem.W.excIn X.K C bmB newId = true) (gC : X.mg x = some (.ref C)) (kC : PySem.W.keepIn X.K (.ref C) = true) (r : Raises X (.ref C)) (he : DE X e te) (hg : Gl X x := by rfl)
    (hs : starEach [.JoinedStr [.Constant (.str m) j p2, .FormattedValue e (-1) none p3] p4] X.env = (false, eval (.JoinedStr [.Constant (.str m) j p2, .FormattedValue e (-1) none p3] p4) X.env) :: starEach [] X.env := by rfl) (hdb : (x == ("__debug__" : Str)) = false := by decide) :
    DSX X W (.Raise (some (.Call (.Name x p) [.JoinedStr [.Constant (.str m) j p2, .FormattedValue e (-1) none p3] p4] [] pos')) none pos) (xRaiseF C m te) :=
  PS.weak (ps_raise hc tk (pmk_own1 F q gC kC r (pe_joined (.cons pe_str (.cons (pe_fmt he) .nil))) hg hs hdb)) fun Dn σ H ⟨r0, G0, H0, r, G, ρ, P, R, E, ⟨hz, p⟩, q, qx⟩ =>
    ⟨m, rfl, hz, r, G, ρ, _, E.env, p, fun v d G' H' ⟨i, e1, z, h2, p'⟩ W' Rp => by
      subst e1
      cases Rp
      exact .inr ⟨i, rfl, z, _, rfl, h2, qx.ex ⟨C, none⟩ _ _ σ G' H' p' (E.grown W') ⟨rfl, rfl⟩⟩⟩
end
/-- no parameter; one with a default -/
theorem lamB0 {T : LT} (e : T.dv = []) (h : ∀ (q : Str) (cl : List (Str × Addr)) (doc pm cv ctv : Value), bindArgs (PySem.W.kdv_fn "<lambda>" q T.params (.expr T.body) T.scope cl .none doc pm cv ctv) ⟨[], []⟩ = pure []) : LamB T :=
  ⟨fun _ => h, fun v z => by rw [e] at z; cases z⟩
theorem lamB1 {T : LT} (a : Str) {n : V} (e : T.dv = [n]) (ha : T.scope.names.lookup a = some .local) (h : ∀ (q : Str) (cl : List (Str × Addr)) (doc pm cv ctv : Value) (D : Addr) (u : Value),
    ∃ k, bindArgs (PySem.W.kdv_fn "<lambda>" q T.params (.expr T.body) T.scope cl (.ref D) doc pm cv ctv) ⟨[], []⟩ = (seqItems? (.ref D) >>= k) ∧ k (some #[u]) = pure [(a, u)]) : LamB T :=
  ⟨fun z => (by rw [e] at z; cases z), fun _ _ => ⟨a, ha, h⟩⟩
/-- == of two that are no sequences, a text against anything plain -/
def fEqS : F2 := fun x y P => match x, y with
  | .str a, .str b => P (.bool (decide (a = b)))
  | .none, .str _ => P (.bool false)
  | .int _, .str _ => P (.bool false)
  | .bool _, .str _ => P (.bool false)
  | _, _ => False
theorem do_eqS {X : Cx} : DO X (compareOp .Eq) fEqS := by
  intro pins s σ H x y v u Q I rx ry ⟨r, G, d, e, P, S, hd, he, p, q⟩
  cases e <;> cases d <;> try exact p.elim
  all_goals
    cases hd; cases he
    refine op_eq pins s σ H _ _ v u Q I rx ry ⟨rfl, q _ _ G H p S.grow ?_⟩
    first
      | exact .bl _
      | (rename_i a b; rw [show decide (V.str b = V.str a) = decide (b = a) by simp]; exact .bl _)
      | (rw [decide_eq_false (by intro z; cases z)]; exact .bl _)
/-- a sign n times, none too -/
def fMulS0 : F2 := fun x y P => ∃ (z : Str) (n : Int), x = .str z ∧ y = .int n ∧ (0 ≤ n ∧ n ≤ 1000) ∧ z.length = 1 ∧ ∀ w : Str, w.length ≤ 1000 → P (.str w)
theorem do_mulS0 {X : Cx} : DO X (binaryOp .Mult) fMulS0 := by
  intro pins s σ H x y v u Q I rx ry ⟨r, G, d, e, P, S, hd, he, ⟨z, n, e1, e2, h1, h2, p⟩, q⟩
  subst e1 e2
  cases hd; cases he
  by_cases h : 1 ≤ n
  · refine op_mulS pins s σ H _ _ v u Q I rx ry ⟨z, n, rfl, rfl, h, h1.2, h2, q _ _ G H (p (repS z n) ?_) S.grow (.str _)⟩
    show (repS z n).cps.size ≤ 1000
    rw [← Array.length_toList, rep_list]
    have : z.cps.toList.length = 1 := by rw [Array.length_toList]; exact h2
    simp [this]
    omega
  · obtain ⟨t, rfl⟩ := rx
    obtain ⟨t', rfl⟩ := ry
    exact PySem.P.mul_str_none (by omega) (by omega) ⟨.str Str.empty, H, I.tok _, ⟨_, rfl⟩, q _ _ G H (p Str.empty (by decide)) S.grow (.str _)⟩
end PD
namespace PF
open PySem L2 PD
local macro_rules | `(tactic| walk_at "pd") => `(tactic| simp only [sRet, sSeq, sIf, sNext, sNever, sAsg, sDrop, sFor, forP, sAug, sApp, sExt, sOwnL, sPar, sRow, dAndV, dOrV, dNotV, dIs, dVar, dC, dChain, dBin, dUn, fNeg, dTest, dTru, dNot, dAnd, dOr, dIf, dCall, dApp, vCons, vNil, vE, vRow, vScr, dCons, dNil, dTup, dLst, dComp, dIter, dRng1, dRng2, dZip, seqD, aName, aTup_tup, aCons, aNil, fIn0, fInt, fAdd, fOrd, fEq, fNe, fIs, fIsNot, isN, fIx_tup, fIx_lst, at0, at1, at2, at3, at_4, eqOk_int, eqv_int, eqOk_bool, eqv_bool, eqOk_str, eqv_str, eqOk_non, eqv_non, eqOk_nil, eqv_nil, decide_true, decide_false,  fLen, fTuple, fList, fAll, fAny, fIntC, truD, frz, startP, wipeP, dYes, dJoin, dIxO, dLenO, dSl, dPart, dNoPart, fSl,
  List.map_cons, List.map_nil, List.length_cons, List.length_nil, List.replicate, List.cons_append, List.nil_append, List.append_nil, List.getElem?_cons_zero, List.getElem?_cons_succ, List.set_cons_zero, List.set_cons_succ, Option.some.injEq, PV.d.injEq, PV.own.injEq, PV.scr.injEq, PyData.int.injEq, PyData.bool.injEq, PyData.list.injEq, PyData.tuple.injEq, PyData.str.injEq, List.cons.injEq, exists_eq_left', exists_eq_left, exists_eq', exists_eq_right', and_assoc, exists_and_left, Nat.zero_add, Nat.add_zero, Nat.reduceAdd, Nat.reduceSub, Nat.reduceLT, Nat.sub_self, ite_true, if_true, if_false, Bool.false_eq_true, ite_false, Bool.not_true, Bool.not_false, Bool.true_and, Bool.and_true, Bool.false_and, Bool.and_false, Bool.true_or, Bool.or_true, Bool.false_or, Bool.or_false, Bool.and_self, true_and, and_true])
local macro_rules | `(tactic| walk_at "pt") => `(tactic| try walk_at "pd")

/-! ### values.py -/
def isWhole (d : Dt) (lo hi : Int) : Bool := match d with
  | .int i => decide (lo ≤ i) && decide (i ≤ hi)
  | _ => false
def F_is_whole : PF := fun as P => ∃ (d : Dt) (lo hi : Int), as = [.d d, .d (.int lo), .d (.int hi)] ∧ P (.bool (isWhole d lo hi))
theorem len_is_whole : ∀ as P, F_is_whole as P → as.length = 3 := by rintro _ P ⟨_, _, _, rfl, _⟩; rfl
def isRow (d : Dt) (lo hi : Int) : Bool := match d with
  | .tuple xs => decide (lo ≤ (xs.length : Int)) && decide ((xs.length : Int) ≤ hi)
  | _ => false
def F_is_row : PF := fun as P => ∃ (d : Dt) (lo hi : Int), as = [.d d, .d (.int lo), .d (.int hi)] ∧ P (.bool (isRow d lo hi))
theorem len_is_row : ∀ as P, F_is_row as P → as.length = 3 := by rintro _ P ⟨_, _, _, rfl, _⟩; rfl
def isLetter (d : Dt) : Bool := match d with
  | .str z => decide ((z.length : Int) = 1) && (!decide (z.cps.toList < ("a" : Str).cps.toList) && !decide (("z" : Str).cps.toList < z.cps.toList))
  | _ => false
def F_is_letter : PF := fun as P => ∃ d : Dt, as = [.d d] ∧ smD d = true ∧ P (.bool (isLetter d))
theorem len_is_letter : ∀ as P, F_is_letter as P → as.length = 1 := by rintro _ P ⟨_, rfl, _⟩; rfl
def isSpan (l h : Dt) (m : Int) : Bool := match l with
  | .int a => (decide (0 ≤ a) && decide (a ≤ m)) && isWhole h a m
  | _ => false
def F_is_span : PF := fun as P => ∃ (l h : Dt) (m : Int), as = [.d l, .d h, .d (.int m)] ∧ P (.bool (isSpan l h m))
theorem len_is_span : ∀ as P, F_is_span as P → as.length = 3 := by rintro _ P ⟨_, _, _, rfl, _⟩; rfl
/-- bounds, as they come -/
def boundsD (bs : List (Int × Int)) : Dt := .list (bs.map fun b => .tuple [.int b.1, .int b.2])
def restsOk : List Dt → List (Int × Int) → Bool
  | x :: xs, b :: bs => isWhole x b.1 b.2 && restsOk xs bs
  | _, _ => true
def areRests (d : Dt) (bs : List (Int × Int)) : Bool := match d with
  | .tuple xs => decide (xs.length = bs.length) && restsOk xs bs
  | _ => false
def F_are_rests : PF := fun as P => ∃ (d : Dt) (bs : List (Int × Int)), as = [.d d, .d (boundsD bs)] ∧ P (.bool (areRests d bs))
theorem len_are_rests : ∀ as P, F_are_rests as P → as.length = 2 := by rintro _ P ⟨_, _, rfl, _⟩; rfl

/-! ### plans -/
def elems : Dt → List Dt
  | .tuple xs => xs
  | .list xs => xs
  | _ => []
def intOf : Dt → Int
  | .int i => i
  | _ => 0
def isWrite (d : Dt) (cells inks : Int) : Bool := match d with
  | .tuple [a, b, c, l, h] => isWhole a 0 (cells - 1) && isLetter b && isWhole c 0 (inks - 1) && isSpan l h 50
  | _ => false
def F_is_write : PF := fun as P => ∃ (d : Dt) (c n : Int), as = [.d d, .d (.int c), .d (.int n)] ∧ smD d = true ∧ P (.bool (isWrite d c n))
theorem len_is_write : ∀ as P, F_is_write as P → as.length = 3 := by rintro _ P ⟨_, _, _, rfl, _⟩; rfl
def isPlan (d : Dt) : Bool := match d with
  | .tuple [c, s, w] => isWhole c 1 4 && isRow s 1 4 && isRow w 0 8 && (elems s).all (fun x => isWhole x 1 50) && (elems w).all fun x => isWrite x (intOf c) (elems s).length
  | _ => false
def F_is_plan : PF := fun as P => ∃ d : Dt, as = [.d d] ∧ smD d = true ∧ P (.bool (isPlan d))
theorem len_is_plan : ∀ as P, F_is_plan as P → as.length = 1 := by rintro _ P ⟨_, rfl, _⟩; rfl
/-- a write, a plan -/
structure Wr where
  cell : Int
  sign : Str
  ink : Int
  low : Int
  high : Int
def Wr.d (w : Wr) : Dt := .tuple [.int w.cell, .str w.sign, .int w.ink, .int w.low, .int w.high]
structure Plan where
  cells : Int
  stays : List Int
  writes : List Wr
def Plan.d (p : Plan) : Dt := .tuple [.int p.cells, .tuple (p.stays.map .int), .tuple (p.writes.map Wr.d)]
theorem wr_ix0 {w : Wr} {P : Dt → Prop} : fIx w.d (.int 0) P = P (.int w.cell) := by simp [Wr.d, fIx_tup, at0]
theorem wr_ix1 {w : Wr} {P : Dt → Prop} : fIx w.d (.int 1) P = P (.str w.sign) := by simp [Wr.d, fIx_tup, at1]
theorem wr_ix2 {w : Wr} {P : Dt → Prop} : fIx w.d (.int 2) P = P (.int w.ink) := by simp [Wr.d, fIx_tup, at2]
theorem wr_ix3 {w : Wr} {P : Dt → Prop} : fIx w.d (.int 3) P = P (.int w.low) := by simp [Wr.d, fIx_tup, at3]
theorem wr_ix4 {w : Wr} {P : Dt → Prop} : fIx w.d (.int 4) P = P (.int w.high) := by simp [Wr.d, fIx_tup, at_4]
theorem pl_ix0 {p : Plan} {P : Dt → Prop} : fIx p.d (.int 0) P = P (.int p.cells) := by simp [Plan.d, fIx_tup, at0]
theorem pl_ix1 {p : Plan} {P : Dt → Prop} : fIx p.d (.int 1) P = P (.tuple (p.stays.map .int)) := by simp [Plan.d, fIx_tup, at1]
theorem pl_ix2 {p : Plan} {P : Dt → Prop} : fIx p.d (.int 2) P = P (.tuple (p.writes.map Wr.d)) := by simp [Plan.d, fIx_tup, at2]
theorem pl_tup {p : Plan} {t : PTGs} {ρ : List PV} {P : List PV → Prop} : aTup 3 t p.d ρ P = t [.int p.cells, .tuple (p.stays.map .int), .tuple (p.writes.map Wr.d)] ρ P := by simp [Plan.d, aTup_tup]
local macro_rules | `(tactic| walk_at "pp") => `(tactic| (simp only [wr_ix0, wr_ix1, wr_ix2, wr_ix3, wr_ix4, pl_ix0, pl_ix1, pl_ix2, pl_tup] <;> walk_at "pt"))
def Plan.bounds (p : Plan) : List (Int × Int) := p.writes.map fun w => (w.low, w.high)
def F_is_pace : PF := fun as P => ∃ (p : Plan) (d : Dt), as = [.d p.d, .d d] ∧ P (.bool (areRests d p.bounds))
theorem len_is_pace : ∀ as P, F_is_pace as P → as.length = 2 := by rintro _ P ⟨_, _, rfl, _⟩; rfl
def F_rest_bounds : PF := fun as P => ∃ p : Plan, as = [.d p.d] ∧ P (boundsD p.bounds)
theorem len_rest_bounds : ∀ as P, F_rest_bounds as P → as.length = 1 := by rintro _ P ⟨_, rfl, _⟩; rfl
def F_check_plan : PF := fun as P => ∃ d : Dt, as = [.d d] ∧ smD d = true ∧ isPlan d = true ∧ P .none
theorem len_check_plan : ∀ as P, F_check_plan as P → as.length = 1 := by rintro _ P ⟨_, rfl, _⟩; rfl
def F_check_pace : PF := fun as P => ∃ (p : Plan) (d : Dt), as = [.d p.d, .d d] ∧ areRests d p.bounds = true ∧ P .none
theorem len_check_pace : ∀ as P, F_check_pace as P → as.length = 2 := by rintro _ P ⟨_, _, rfl, _⟩; rfl
def F_check_cell : PF := fun as P => ∃ (p : Plan) (d : Dt), as = [.d p.d, .d d] ∧ isWhole d 0 (p.cells - 1) = true ∧ P .none
theorem len_check_cell : ∀ as P, F_check_cell as P → as.length = 2 := by rintro _ P ⟨_, _, rfl, _⟩; rfl
def F_check_tick : PF := fun as P => ∃ (d : Dt) (m : Int), as = [.d d, .d (.int m)] ∧ isWhole d 0 m = true ∧ P .none
theorem len_check_tick : ∀ as P, F_check_tick as P → as.length = 2 := by rintro _ P ⟨_, _, rfl, _⟩; rfl
def sums (s : Int) : List Int → List Int
  | [] => []
  | r :: rs => (s + r) :: sums (s + r) rs
theorem sums_length (s : Int) : ∀ rs : List Int, (sums s rs).length = rs.length
  | [] => rfl
  | r :: rs => by simp [sums, sums_length (s + r) rs]
def F_summed : PF := fun as P => ∃ (s : Int) (rs : List Int) (d : Dt), as = [.d (.int s), .d d] ∧ (d = .tuple (rs.map .int) ∨ d = .list (rs.map .int)) ∧ rs.length ≤ 1000 ∧ P (.tuple ((sums s rs).map .int))
theorem len_summed : ∀ as P, F_summed as P → as.length = 2 := by rintro _ P ⟨_, _, _, rfl, _⟩; rfl
/-- what is seen at a cell at a tick, from a sign on -/
def seenGo (stays : List Int) (cell tick : Int) : List Int → List Wr → Str → Str
  | t :: ts, w :: ws, z => seenGo stays cell tick ts ws (if w.cell = cell ∧ t ≤ tick ∧ tick < t + stays.getD w.ink.toNat 0 then w.sign else z)
  | _, _, z => z
def seenAt (p : Plan) (ts : List Int) (cell tick : Int) : Str := seenGo p.stays cell tick ts p.writes "."
def Plan.inks (p : Plan) : Prop := ∀ w ∈ p.writes, 0 ≤ w.ink ∧ w.ink < (p.stays.length : Int)
def F_sign_at : PF := fun as P => ∃ (p : Plan) (ts : List Int) (c t : Int), as = [.d p.d, .d (.tuple (ts.map .int)), .d (.int c), .d (.int t)] ∧ p.inks ∧ P (.str (seenAt p ts c t))
theorem len_sign_at : ∀ as P, F_sign_at as P → as.length = 4 := by rintro _ P ⟨_, _, _, _, rfl, _⟩; rfl
/-- a plan that keeps the bounds; a pace of it -/
structure Plan.ok (p : Plan) : Prop where
  d : isPlan p.d = true
  sm : smD p.d = true
  inks : p.inks
  cells : 1 ≤ p.cells ∧ p.cells ≤ 4
  many : p.writes.length ≤ 8
  one : ∀ w ∈ p.writes, w.sign.length = 1
def pacesD (rs : List Int) : Dt := .tuple (rs.map .int)
def F_ticks : PF := fun as P => ∃ (p : Plan) (rs : List Int), as = [.d p.d, .d (pacesD rs)] ∧ p.ok ∧ areRests (pacesD rs) p.bounds = true ∧ P (.tuple ((sums 0 rs).map .int))
theorem len_ticks : ∀ as P, F_ticks as P → as.length = 2 := by rintro _ P ⟨_, _, rfl, _⟩; rfl
def F_seen : PF := fun as P => ∃ (p : Plan) (rs : List Int) (c t : Int), as = [.d p.d, .d (pacesD rs), .d (.int c), .d (.int t)] ∧ p.ok ∧ areRests (pacesD rs) p.bounds = true ∧ (0 ≤ c ∧ c < p.cells) ∧ (0 ≤ t ∧ t ≤ 1000) ∧ P (.str (seenAt p (sums 0 rs) c t))
theorem len_seen : ∀ as P, F_seen as P → as.length = 4 := by rintro _ P ⟨_, _, _, _, rfl, _⟩; rfl
def upTo (n : Int) : List Int := (List.range n.toNat).map fun (i : Nat) => (i : Int)
def boardOf (p : Plan) (ts : List Int) (t : Int) : Str := Txt.join "" ((upTo p.cells).map fun c => seenAt p ts c t)
def F_board : PF := fun as P => ∃ (p : Plan) (rs : List Int) (t : Int), as = [.d p.d, .d (pacesD rs), .d (.int t)] ∧ p.ok ∧ areRests (pacesD rs) p.bounds = true ∧ (0 ≤ t ∧ t ≤ 1000) ∧ P (.str (boardOf p (sums 0 rs) t))
theorem len_board : ∀ as P, F_board as P → as.length = 3 := by rintro _ P ⟨_, _, _, rfl, _⟩; rfl
def storyOf (p : Plan) (ts : List Int) (c last : Int) : Str := Txt.join "" ((upTo (last + 1)).map fun t => seenAt p ts c t)
def F_story : PF := fun as P => ∃ (p : Plan) (rs : List Int) (c l : Int), as = [.d p.d, .d (pacesD rs), .d (.int c), .d (.int l)] ∧ p.ok ∧ areRests (pacesD rs) p.bounds = true ∧ (0 ≤ c ∧ c < p.cells) ∧ (0 ≤ l ∧ l ≤ 200) ∧ P (.str (storyOf p (sums 0 rs) c l))
theorem len_story : ∀ as P, F_story as P → as.length = 4 := by rintro _ P ⟨_, _, _, _, rfl, _⟩; rfl
def rd_is_whole : PTS :=
  (sRet (dAndV (dIs isIntD (dVar 0)) (dAndV (dNotV (dIs isBoolD (dVar 0))) (dChain fLe fLe (dVar 1) (dVar 0) (dVar 2)))))

def rd_is_row : PTS :=
  (sRet (dAndV (dIs isTupD (dVar 0)) (dChain fLe fLe (dVar 1) (dApp fLen (dCons (dVar 0) dNil)) (dVar 2))))

def rd_is_letter : PTS :=
  (sRet (dAndV (dIs isStrD (dVar 0)) (dAndV (dBin fEq (dApp fLen (dCons (dVar 0) dNil)) (dC (.int 1))) (dChain fLe fLe (dC (.str "a")) (dVar 0) (dC (.str "z"))))))

def rd_is_span : PTS :=
  (sRet (dAndV (dCall F_is_whole (vCons (vE (dVar 0)) (vCons (vE (dC (.int 0))) (vCons (vE (dVar 2)) vNil)))) (dCall F_is_whole (vCons (vE (dVar 1)) (vCons (vE (dVar 0)) (vCons (vE (dVar 2)) vNil))))))

def rd_are_rests : PTS :=
  (sSeq (sIf (dNot (dTru (dCall F_is_row (vCons (vE (dVar 0)) (vCons (vE (dApp fLen (dCons (dVar 1) dNil))) (vCons (vE (dApp fLen (dCons (dVar 1) dNil))) vNil)))))) (sRet (dC (.bool false))) sNext)
  (sRet (dApp fAll (dCons (dComp (dZip (dCons (dVar 0) (dCons (dVar 1) dNil))) (aTup 2 (aCons (aName 2) (aCons (aTup 2 (aCons (aName 3) (aCons (aName 4) aNil))) aNil))) dYes (dCall F_is_whole (vCons (vE (dVar 2)) (vCons (vE (dVar 3)) (vCons (vE (dVar 4)) vNil)))) [2, 3, 4]) dNil))))

def rd_is_write : PTS :=
  (sSeq (sIf (dNot (dTru (dCall F_is_row (vCons (vE (dVar 0)) (vCons (vE (dC (.int 5))) (vCons (vE (dC (.int 5))) vNil)))))) (sRet (dC (.bool false))) sNext)
  (sSeq (sAsg (dVar 0) (aTup 5 (aCons (aName 3) (aCons (aName 4) (aCons (aName 5) (aCons (aName 6) (aCons (aName 7) aNil)))))))
  (sSeq (sIf (dOr (dNot (dTru (dCall F_is_whole (vCons (vE (dVar 3)) (vCons (vE (dC (.int 0))) (vCons (vE (dBin fSub (dVar 1) (dC (.int 1)))) vNil)))))) (dOr (dNot (dTru (dCall F_is_letter (vCons (vE (dVar 4)) vNil)))) (dNot (dTru (dCall F_is_whole (vCons (vE (dVar 5)) (vCons (vE (dC (.int 0))) (vCons (vE (dBin fSub (dVar 2) (dC (.int 1)))) vNil)))))))) (sRet (dC (.bool false))) sNext)
  (sRet (dCall F_is_span (vCons (vE (dVar 6)) (vCons (vE (dVar 7)) (vCons (vE (dC (.int 50))) vNil))))))))

def rd_is_plan : PTS :=
  (sSeq (sIf (dNot (dTru (dCall F_is_row (vCons (vE (dVar 0)) (vCons (vE (dC (.int 3))) (vCons (vE (dC (.int 3))) vNil)))))) (sRet (dC (.bool false))) sNext)
  (sSeq (sAsg (dVar 0) (aTup 3 (aCons (aName 1) (aCons (aName 2) (aCons (aName 3) aNil)))))
  (sSeq (sIf (dOr (dNot (dTru (dCall F_is_whole (vCons (vE (dVar 1)) (vCons (vE (dC (.int 1))) (vCons (vE (dC (.int 4))) vNil)))))) (dOr (dNot (dTru (dCall F_is_row (vCons (vE (dVar 2)) (vCons (vE (dC (.int 1))) (vCons (vE (dC (.int 4))) vNil)))))) (dNot (dTru (dCall F_is_row (vCons (vE (dVar 3)) (vCons (vE (dC (.int 0))) (vCons (vE (dC (.int 8))) vNil)))))))) (sRet (dC (.bool false))) sNext)
  (sSeq (sIf (dNot (dTru (dApp fAll (dCons (dComp (dIter (dVar 2)) (aName 5) dYes (dCall F_is_whole (vCons (vE (dVar 5)) (vCons (vE (dC (.int 1))) (vCons (vE (dC (.int 50))) vNil)))) [5]) dNil)))) (sRet (dC (.bool false))) sNext)
  (sRet (dApp fAll (dCons (dComp (dIter (dVar 3)) (aName 4) dYes (dCall F_is_write (vCons (vE (dVar 4)) (vCons (vE (dVar 1)) (vCons (vE (dApp fLen (dCons (dVar 2) dNil))) vNil)))) [4]) dNil)))))))

def rd_rest_bounds : PTS :=
  (sRet (dComp (dIter (dBin fIx (dVar 0) (dC (.int 2)))) (aName 1) dYes (dTup (dCons (dBin fIx (dVar 1) (dC (.int 3))) (dCons (dBin fIx (dVar 1) (dC (.int 4))) dNil))) [1]))

def rd_is_pace : PTS :=
  (sRet (dCall F_are_rests (vCons (vE (dVar 1)) (vCons (vE (dCall F_rest_bounds (vCons (vE (dVar 0)) vNil))) vNil))))

def rd_check_plan : PTS :=
  (sIf (dNot (dTru (dCall F_is_plan (vCons (vE (dVar 0)) vNil)))) sNever sNext)

def rd_check_pace : PTS :=
  (sIf (dNot (dTru (dCall F_is_pace (vCons (vE (dVar 0)) (vCons (vE (dVar 1)) vNil))))) sNever sNext)

def rd_check_cell : PTS :=
  (sIf (dNot (dTru (dCall F_is_whole (vCons (vE (dVar 1)) (vCons (vE (dC (.int 0))) (vCons (vE (dBin fSub (dBin fIx (dVar 0) (dC (.int 0))) (dC (.int 1)))) vNil)))))) sNever sNext)

def rd_check_tick : PTS :=
  (sIf (dNot (dTru (dCall F_is_whole (vCons (vE (dVar 0)) (vCons (vE (dC (.int 0))) (vCons (vE (dVar 1)) vNil)))))) sNever sNext)

def rd_summed : PTS :=
  (sSeq (sOwnL 2 dNil)
  (sSeq (sAsg (dVar 0) (aName 3))
  (sSeq (sFor (dIter (dVar 1)) (aName 4) (sSeq (sAug 3 (fIn0 fun i j => .int (i + j)) (dVar 4))
  (sApp 2 (dVar 3))))
  (sRet (dApp fTuple (dCons (dVar 2) dNil))))))

def rd_sign_at : PTS :=
  (sSeq (sAsg (dVar 0) (aTup 3 (aCons (aName 4) (aCons (aName 5) (aCons (aName 6) aNil)))))
  (sSeq (sAsg (dC (.str ".")) (aName 7))
  (sSeq (sFor (dZip (dCons (dVar 1) (dCons (dVar 6) dNil))) (aTup 2 (aCons (aName 8) (aCons (aName 9) aNil))) (sIf (dAnd (dTest (dBin fEq (dBin fIx (dVar 9) (dC (.int 0))) (dVar 2))) (dTest (dChain fLe fLt (dVar 8) (dVar 3) (dBin fAdd (dVar 8) (dBin fIx (dVar 5) (dBin fIx (dVar 9) (dC (.int 2)))))))) (sAsg (dBin fIx (dVar 9) (dC (.int 1))) (aName 7)) sNext))
  (sRet (dVar 7)))))

def rd_ticks : PTS :=
  (sSeq (sDrop (dCall F_check_plan (vCons (vE (dVar 0)) vNil)))
  (sSeq (sDrop (dCall F_check_pace (vCons (vE (dVar 0)) (vCons (vE (dVar 1)) vNil))))
  (sRet (dCall F_summed (vCons (vE (dC (.int 0))) (vCons (vE (dVar 1)) vNil))))))

def rd_seen : PTS :=
  (sSeq (sDrop (dCall F_check_plan (vCons (vE (dVar 0)) vNil)))
  (sSeq (sDrop (dCall F_check_pace (vCons (vE (dVar 0)) (vCons (vE (dVar 1)) vNil))))
  (sSeq (sDrop (dCall F_check_cell (vCons (vE (dVar 0)) (vCons (vE (dVar 2)) vNil))))
  (sSeq (sDrop (dCall F_check_tick (vCons (vE (dVar 3)) (vCons (vE (dC (.int 1000))) vNil))))
  (sRet (dCall F_sign_at (vCons (vE (dVar 0)) (vCons (vE (dCall F_summed (vCons (vE (dC (.int 0))) (vCons (vE (dVar 1)) vNil)))) (vCons (vE (dVar 2)) (vCons (vE (dVar 3)) vNil))))))))))

def rd_board : PTS :=
  (sSeq (sDrop (dCall F_check_plan (vCons (vE (dVar 0)) vNil)))
  (sSeq (sDrop (dCall F_check_pace (vCons (vE (dVar 0)) (vCons (vE (dVar 1)) vNil))))
  (sSeq (sDrop (dCall F_check_tick (vCons (vE (dVar 2)) (vCons (vE (dC (.int 1000))) vNil))))
  (sSeq (sAsg (dCall F_summed (vCons (vE (dC (.int 0))) (vCons (vE (dVar 1)) vNil))) (aName 3))
  (sRet (dJoin (dC (.str "")) (dComp (dRng1 (dCons (dBin fIx (dVar 0) (dC (.int 0))) dNil)) (aName 4) dYes (dCall F_sign_at (vCons (vE (dVar 0)) (vCons (vE (dVar 3)) (vCons (vE (dVar 4)) (vCons (vE (dVar 2)) vNil))))) [4])))))))

def rd_story : PTS :=
  (sSeq (sDrop (dCall F_check_plan (vCons (vE (dVar 0)) vNil)))
  (sSeq (sDrop (dCall F_check_pace (vCons (vE (dVar 0)) (vCons (vE (dVar 1)) vNil))))
  (sSeq (sDrop (dCall F_check_cell (vCons (vE (dVar 0)) (vCons (vE (dVar 2)) vNil))))
  (sSeq (sDrop (dCall F_check_tick (vCons (vE (dVar 3)) (vCons (vE (dC (.int 200))) vNil))))
  (sSeq (sAsg (dCall F_summed (vCons (vE (dC (.int 0))) (vCons (vE (dVar 1)) vNil))) (aName 4))
  (sRet (dJoin (dC (.str "")) (dComp (dRng1 (dCons (dBin fAdd (dVar 3) (dC (.int 1))) dNil)) (aName 5) dYes (dCall F_sign_at (vCons (vE (dVar 0)) (vCons (vE (dVar 4)) (vCons (vE (dVar 2)) (vCons (vE (dVar 5)) vNil))))) [5]))))))))
theorem holds_is_whole : ∀ as Q, F_is_whole as Q → rd_is_whole { nx := fun _ => Q .none, rt := Q } (startP ["value", "low", "high"] as) := by
  rintro _ Q ⟨d, lo, hi, rfl, q⟩
  unfold rd_is_whole
  walk_at "pd"
  cases d <;> simp only [isIntD, isBoolD, isWhole] at q ⊢ <;> walk_at "pd" <;> try exact q
  split
  · next h => simpa only [h, Bool.true_and] using q
  · next h => simpa only [h, Bool.false_and] using q
theorem holds_is_row : ∀ as Q, F_is_row as Q → rd_is_row { nx := fun _ => Q .none, rt := Q } (startP ["value", "least", "most"] as) := by
  rintro _ Q ⟨d, lo, hi, rfl, q⟩
  unfold rd_is_row
  walk_at "pd"
  cases d <;> simp only [isTupD, isRow] at q ⊢ <;> walk_at "pd" <;> try exact q
  split
  · next h => simpa only [h, Bool.true_and] using q
  · next h => simpa only [h, Bool.false_and] using q
theorem holds_is_letter : ∀ as Q, F_is_letter as Q → rd_is_letter { nx := fun _ => Q .none, rt := Q } (startP ["value"] as) := by
  rintro _ Q ⟨d, rfl, sm, q⟩
  unfold rd_is_letter
  walk_at "pd"
  cases d <;> simp only [isStrD, isLetter] at q ⊢ <;> walk_at "pd" <;> try exact q
  refine ⟨sm_str sm, ?_⟩
  by_cases h1 : (‹Str›.length : Int) = 1
  · rw [decide_eq_true h1] at q ⊢
    walk_at "pd"
    simp only [Bool.true_and] at q
    split
    · next h => simpa only [h, Bool.true_and] using q
    · next h => simpa only [h, Bool.false_and] using q
  · rw [decide_eq_false h1] at q ⊢
    walk_at "pd"
    exact q
theorem holds_is_span : ∀ as Q, F_is_span as Q → rd_is_span { nx := fun _ => Q .none, rt := Q } (startP ["low", "high", "most"] as) := by
  rintro _ Q ⟨l, h, m, rfl, q⟩
  unfold rd_is_span
  walk_at "pd"
  refine ⟨l, 0, m, rfl, _, rfl, ?_⟩
  cases l <;> simp only [isWhole, isSpan] at q ⊢ <;> (walk_at "pt") <;> try exact q
  refine ite_b (fun hh => ?_) fun hh => ?_
  · refine ⟨h, _, m, rfl, ?_⟩
    rw [hh, Bool.true_and] at q
    exact q
  · simpa only [hh, Bool.false_and] using q
theorem zip_bounds : ∀ (xs : List Dt) (bs : List (Int × Int)), zipD xs (bs.map fun b => .tuple [.int b.1, .int b.2]) = List.zipWith (fun x (b : Int × Int) => .tuple [x, .tuple [.int b.1, .int b.2]]) xs bs
  | [], _ => by simp [zipD]
  | x :: xs, [] => by simp [zipD]
  | x :: xs, b :: bs => by
    have := zip_bounds xs bs
    simp only [zipD] at this ⊢
    simp [this]
theorem all_rests : ∀ (xs : List Dt) (bs : List (Int × Int)), xs.length = bs.length → (List.zipWith (fun x (b : Int × Int) => isWhole x b.1 b.2) xs bs).all id = restsOk xs bs
  | [], [], _ => rfl
  | x :: xs, b :: bs, h => by
    have := all_rests xs bs (by simpa using h)
    simp [restsOk, this]
theorem map_bools (bs : List Bool) : dBools (bs.map PyData.bool) = some bs := by simpa using bools_map bs
def restF : Dt → Dt
  | .tuple [x, .tuple [.int a, .int b]] => .bool (isWhole x a b)
  | _ => .none
theorem holds_are_rests : ∀ as Q, F_are_rests as Q → rd_are_rests { nx := fun _ => Q .none, rt := Q } (startP ["value", "bounds", "rest", "low", "high"] as) := by
  rintro _ Q ⟨d, bs, rfl, q⟩
  unfold rd_are_rests boundsD
  walk_at "pd"
  refine ⟨d, _, _, rfl, _, rfl, ?_⟩
  rw [List.length_map]
  cases d <;> simp only [isRow, areRests] at q ⊢ <;> (walk_at "pt") <;> try exact q
  rename_i xs
  by_cases h : xs.length = bs.length
  · have h1 : (xs.length : Int) = (bs.length : Int) := by omega
    rw [decide_eq_true h, Bool.true_and] at q
    rw [h1, decide_eq_true (Int.le_refl _)]
    walk_at "pd"
    intro hz
    rw [zip_bounds]
    refine lcP_map0 restF _ _ (fun y hy P' p' => ?_) ?_
    · obtain ⟨x, b, rfl⟩ : ∃ (x : Dt) (b : Int × Int), y = .tuple [x, .tuple [.int b.1, .int b.2]] := by
        obtain ⟨i, hi, e⟩ := List.mem_iff_getElem.mp hy
        simp only [List.getElem_zipWith] at e
        exact ⟨_, _, e.symm⟩
      walk_at "pd"
      exact ⟨_, _, _, rfl, p'⟩
    · rw [← all_rests xs bs h] at q
      refine ⟨_, ?_, q⟩
      have e : ∀ (xs : List Dt) (bs : List (Int × Int)), (List.zipWith (fun x (b : Int × Int) => PyData.tuple [x, .tuple [.int b.1, .int b.2]]) xs bs).map restF = (List.zipWith (fun x (b : Int × Int) => isWhole x b.1 b.2) xs bs).map .bool := by
        intro xs
        induction xs with
        | nil => intro bs; rfl
        | cons x xs ih => intro bs; cases bs with
          | nil => rfl
          | cons b bs => simp only [List.zipWith_cons_cons, List.map_cons, ih, restF]
      rw [e]
      exact map_bools _
  · have h1 : (decide ((bs.length : Int) ≤ xs.length) && decide ((xs.length : Int) ≤ bs.length)) = false := by
      simp only [Bool.and_eq_false_iff, decide_eq_false_iff_not]
      omega
    rw [decide_eq_false h, Bool.false_and] at q
    rw [h1]
    walk_at "pd"
    exact q

theorem all_map {xs : List Dt} {f : Dt → Bool} {Q : Bool → Prop} (h : Q (xs.all f)) : ∃ bs, dBools (xs.map fun x => PyData.bool (f x)) = some bs ∧ Q (bs.all id) := by
  refine ⟨xs.map f, ?_, ?_⟩
  · rw [← map_bools (xs.map f), List.map_map]
    rfl
  · rw [List.all_map]
    exact h
theorem row_elems {d : Dt} {lo hi : Int} (h : isRow d lo hi = true) : ∃ xs, d = .tuple xs := by
  cases d <;> simp [isRow] at h
  exact ⟨_, rfl⟩
theorem row5 {d : Dt} (h : isRow d 5 5 = true) : ∃ a b c e f, d = .tuple [a, b, c, e, f] := by
  obtain ⟨xs, rfl⟩ := row_elems h
  simp only [isRow, Bool.and_eq_true, decide_eq_true_eq] at h
  match xs, h with
  | [a, b, c, e, f], _ => exact ⟨a, b, c, e, f, rfl⟩
  | [], h => simp at h
  | [_], h => simp at h
  | [_, _], h => simp at h
  | [_, _, _], h => simp at h
  | [_, _, _, _], h => simp at h
  | _ :: _ :: _ :: _ :: _ :: _ :: _, h => simp only [List.length_cons] at h; omega
theorem row3 {d : Dt} (h : isRow d 3 3 = true) : ∃ a b c, d = .tuple [a, b, c] := by
  obtain ⟨xs, rfl⟩ := row_elems h
  simp only [isRow, Bool.and_eq_true, decide_eq_true_eq] at h
  match xs, h with
  | [a, b, c], _ => exact ⟨a, b, c, rfl⟩
  | [], h => simp at h
  | [_], h => simp at h
  | [_, _], h => simp at h
  | _ :: _ :: _ :: _ :: _, h => simp only [List.length_cons] at h; omega
theorem not_write {d : Dt} {c n : Int} (h : isRow d 5 5 = false) : isWrite d c n = false := by
  unfold isWrite
  split
  · simp [isRow] at h
  · rfl
theorem not_plan {d : Dt} (h : isRow d 3 3 = false) : isPlan d = false := by
  unfold isPlan
  split
  · simp [isRow] at h
  · rfl
theorem holds_is_write : ∀ as Q, F_is_write as Q → rd_is_write { nx := fun _ => Q .none, rt := Q } (startP ["value", "cells", "inks", "cell", "sign", "ink", "low", "high"] as) := by
  rintro _ Q ⟨d, c, n, rfl, sm, q⟩
  unfold rd_is_write
  walk_at "pd"
  refine ⟨d, 5, 5, rfl, _, rfl, ?_⟩
  refine ite_b (fun h => ?_) fun h => ?_
  · rw [not_write (by simpa using h)] at q
    exact q
  · obtain ⟨a, b, i, l, hh, rfl⟩ := row5 (d := d) (by simpa using h)
    walk_at "pd"
    simp only [smD, smDs, Bool.and_eq_true] at sm
    simp only [isWrite] at q
    refine ⟨a, 0, _, rfl, _, rfl, ite_b (fun h1 => ?_) fun h1 => ?_⟩
    · walk_at "pt"
      rw [show isWhole a 0 (c - 1) = false by simpa using h1] at q
      simpa only [Bool.false_and] using q
    · rw [show isWhole a 0 (c - 1) = true by simpa using h1] at q
      refine ⟨b, rfl, sm.2.1, _, rfl, ite_b (fun h2 => ?_) fun h2 => ?_⟩
      · walk_at "pt"
        rw [show isLetter b = false by simpa using h2] at q
        simpa only [Bool.true_and, Bool.false_and] using q
      · rw [show isLetter b = true by simpa using h2] at q
        refine ⟨i, 0, _, rfl, _, rfl, ite_b (fun h3 => ?_) fun h3 => ?_⟩
        · rw [show isWhole i 0 (n - 1) = false by simpa using h3] at q
          simpa only [Bool.true_and, Bool.false_and] using q
        · rw [show isWhole i 0 (n - 1) = true by simpa using h3] at q
          exact ⟨l, hh, 50, rfl, by simpa only [Bool.true_and] using q⟩

theorem holds_is_plan : ∀ as Q, F_is_plan as Q → rd_is_plan { nx := fun _ => Q .none, rt := Q } (startP ["value", "cells", "stays", "writes", "write", "stay"] as) := by
  rintro _ Q ⟨d, rfl, sm, q⟩
  unfold rd_is_plan
  walk_at "pd"
  refine ⟨d, 3, 3, rfl, _, rfl, ?_⟩
  refine ite_b (fun h => ?_) fun h => ?_
  · rw [not_plan (by simpa using h)] at q
    exact q
  · obtain ⟨c, s, w, rfl⟩ := row3 (d := d) (by simpa using h)
    walk_at "pd"
    simp only [smD, smDs, Bool.and_eq_true] at sm
    simp only [isPlan] at q
    refine ⟨c, 1, 4, rfl, _, rfl, ite_b (fun h1 => ?_) fun h1 => ?_⟩
    · walk_at "pt"
      rw [show isWhole c 1 4 = false by simpa using h1] at q
      simpa only [Bool.false_and] using q
    · rw [show isWhole c 1 4 = true by simpa using h1] at q
      refine ⟨s, 1, 4, rfl, _, rfl, ite_b (fun h2 => ?_) fun h2 => ?_⟩
      · walk_at "pt"
        rw [show isRow s 1 4 = false by simpa using h2] at q
        simpa only [Bool.true_and, Bool.false_and] using q
      · rw [show isRow s 1 4 = true by simpa using h2] at q
        refine ⟨w, 0, 8, rfl, _, rfl, ite_b (fun h3 => ?_) fun h3 => ?_⟩
        · rw [show isRow w 0 8 = false by simpa using h3] at q
          simpa only [Bool.true_and, Bool.false_and] using q
        · rw [show isRow w 0 8 = true by simpa using h3] at q
          obtain ⟨ss, rfl⟩ := row_elems (d := s) (by simpa using h2)
          obtain ⟨ws, rfl⟩ := row_elems (d := w) (by simpa using h3)
          obtain ⟨ci, rfl⟩ : ∃ ci, c = .int ci := by
            cases c <;> simp [isWhole] at h1
            exact ⟨_, rfl⟩
          simp only [Bool.true_and, elems, intOf] at q
          walk_at "pd"
          intro _
          refine lcP_map0 (fun x => .bool (isWhole x 1 50)) _ _ (fun x _ P' p' => ?_) (all_map (Q := fun b => if (!b) = true then _ else _) ?_)
          · walk_at "pd"
            exact ⟨x, 1, 50, rfl, p'⟩
          · refine ite_b (fun h4 => ?_) fun h4 => ?_
            · rw [show ss.all (fun x => isWhole x 1 50) = false by simpa using h4] at q
              simpa only [Bool.false_and] using q
            · rw [show ss.all (fun x => isWhole x 1 50) = true by simpa using h4] at q
              intro _
              refine lcP_map0 (fun x => .bool (isWrite x ci ss.length)) _ _ (fun x hx P' p' => ?_) (all_map (Q := fun b => Q (.bool b)) (by simpa only [Bool.true_and] using q))
              walk_at "pd"
              exact ⟨x, ci, _, rfl, smDs_mem sm.2.2.1 hx, p'⟩
theorem holds_rest_bounds : ∀ as Q, F_rest_bounds as Q → rd_rest_bounds { nx := fun _ => Q .none, rt := Q } (startP ["plan", "write"] as) := by
  rintro _ Q ⟨p, rfl, q⟩
  unfold rd_rest_bounds
  walk_at "pd"
  walk_at "pp"
  intro _
  refine lcP_enc Wr.d (fun w => .tuple [.int w.low, .int w.high]) p.writes _ (fun w _ P' p' => ?_) ?_
  · walk_at "pd"
    walk_at "pp"
    exact ⟨by decide, p'⟩
  · unfold boundsD Plan.bounds at q
    rw [List.map_map] at q
    exact q
theorem holds_is_pace : ∀ as Q, F_is_pace as Q → rd_is_pace { nx := fun _ => Q .none, rt := Q } (startP ["plan", "value"] as) := by
  rintro _ Q ⟨p, d, rfl, q⟩
  unfold rd_is_pace
  walk_at "pd"
  exact ⟨p, rfl, d, _, rfl, q⟩
theorem holds_check_plan : ∀ as Q, F_check_plan as Q → rd_check_plan { nx := fun _ => Q .none, rt := Q } (startP ["plan"] as) := by
  rintro _ Q ⟨d, rfl, sm, ok, q⟩
  unfold rd_check_plan
  walk_at "pd"
  refine ⟨d, rfl, sm, _, rfl, ?_⟩
  rw [ok]
  walk_at "pd"
  exact q
theorem holds_check_pace : ∀ as Q, F_check_pace as Q → rd_check_pace { nx := fun _ => Q .none, rt := Q } (startP ["plan", "pace"] as) := by
  rintro _ Q ⟨p, d, rfl, ok, q⟩
  unfold rd_check_pace
  walk_at "pd"
  refine ⟨p, d, rfl, _, rfl, ?_⟩
  rw [ok]
  walk_at "pd"
  exact q
theorem holds_check_cell : ∀ as Q, F_check_cell as Q → rd_check_cell { nx := fun _ => Q .none, rt := Q } (startP ["plan", "cell"] as) := by
  rintro _ Q ⟨p, d, rfl, ok, q⟩
  unfold rd_check_cell
  walk_at "pd"
  walk_at "pp"
  refine ⟨d, 0, _, rfl, _, rfl, ?_⟩
  rw [ok]
  walk_at "pd"
  exact q
theorem holds_check_tick : ∀ as Q, F_check_tick as Q → rd_check_tick { nx := fun _ => Q .none, rt := Q } (startP ["tick", "most"] as) := by
  rintro _ Q ⟨d, m, rfl, ok, q⟩
  unfold rd_check_tick
  walk_at "pd"
  refine ⟨d, 0, m, rfl, _, rfl, ?_⟩
  rw [ok]
  walk_at "pd"
  exact q

theorem go_summed (Q : Dt → Prop) (d : Dt) (s : Int) : ∀ (rs : List Int) (acc : List Dt) (t : Int) (x : PV), acc.length + rs.length ≤ 2000 → Q (.tuple (acc ++ (sums t rs).map .int)) →
    forP (aName 4) (sSeq (sAug 3 (fIn0 fun i j => .int (i + j)) (dVar 4)) (sApp 2 (dVar 3))) { nx := sRet (dApp fTuple (dCons (dVar 2) dNil)) { nx := fun _ => Q .none, rt := Q }, rt := Q } (rs.map .int) [.d (.int s), .d d, .own (.list acc), .d (.int t), x]
  | [], acc, t, x, _, q => by
    walk_at "pd"
    simpa [sums] using q
  | r :: rs, acc, t, x, hl, q => by
    walk_at "pd"
    refine ⟨by rw [line_eq]; simp only [List.length_cons] at hl; omega, go_summed Q d s rs _ _ _ (by simp only [List.length_append, List.length_cons, List.length_nil] at hl ⊢; omega) ?_⟩
    simpa [sums] using q
theorem holds_summed : ∀ as Q, F_summed as Q → rd_summed { nx := fun _ => Q .none, rt := Q } (startP ["start", "rests", "found", "tick", "rest"] as) := by
  rintro _ Q ⟨s, rs, d, rfl, hd, hl, q⟩
  unfold rd_summed
  walk_at "pd"
  rcases hd with rfl | rfl
  all_goals
    walk_at "pt"
    refine ⟨by decide, fun _ => ?_⟩
    exact go_summed Q _ s rs [] s _ (by simp only [List.length_nil]; omega) (by simpa using q)
theorem getD_at {xs : List Int} {i : Int} (h0 : 0 ≤ i) (h1 : i < (xs.length : Int)) : atI (xs.map PyData.int) i = some (.int (xs.getD i.toNat 0)) := by
  have e : i = ((i.toNat : Nat) : Int) := by omega
  have hl : i.toNat < xs.length := by omega
  conv => lhs; rw [e]
  refine atI_nat ?_
  rw [List.getElem?_map, List.getElem?_eq_getElem hl, List.getD_eq_getElem?_getD, List.getElem?_eq_getElem hl]
  rfl
theorem go_sign (Q : Dt → Prop) (p : Plan) (td : Dt) (c t : Int) (x0 x6 : PV) : ∀ (l : List (Int × Wr)) (z : Str) (x8 x9 : PV), (∀ w ∈ l, 0 ≤ w.2.ink ∧ w.2.ink < (p.stays.length : Int)) → Q (.str (seenGo p.stays c t (l.map (·.1)) (l.map (·.2)) z)) →
    forP (aTup 2 (aCons (aName 8) (aCons (aName 9) aNil))) (sIf (dAnd (dTest (dBin fEq (dBin fIx (dVar 9) (dC (.int 0))) (dVar 2))) (dTest (dChain fLe fLt (dVar 8) (dVar 3) (dBin fAdd (dVar 8) (dBin fIx (dVar 5) (dBin fIx (dVar 9) (dC (.int 2)))))))) (sAsg (dBin fIx (dVar 9) (dC (.int 1))) (aName 7)) sNext)
      { nx := sRet (dVar 7) { nx := fun _ => Q .none, rt := Q }, rt := Q } (l.map fun w => .tuple [.int w.1, w.2.d]) [.d p.d, .d td, .d (.int c), .d (.int t), x0, .d (.tuple (p.stays.map .int)), x6, .d (.str z), x8, x9]
  | [], z, x8, x9, _, q => by
    walk_at "pd"
    exact q
  | w :: l, z, x8, x9, hi, q => by
    have h := hi w (by simp)
    have ih := fun z x8 x9 => go_sign Q p td c t x0 x6 l z x8 x9 fun v hv => hi v (by simp [hv])
    simp only [List.map_cons, seenGo] at q
    walk_at "pd"
    walk_at "pp"
    by_cases h1 : w.2.cell = c
    · rw [decide_eq_true h1]
      walk_at "pd"
      by_cases h2 : w.1 ≤ t
      · rw [decide_eq_true h2]
        walk_at "pd"
        refine ⟨_, getD_at h.1 h.2, ?_⟩
        walk_at "pd"
        refine ite_b (fun h3 => ?_) fun h3 => ?_
        · rw [if_pos ⟨h1, h2, of_decide_eq_true h3⟩] at q
          exact ih _ _ _ q
        · rw [if_neg (fun z => of_decide_eq_false h3 z.2.2)] at q
          exact ih _ _ _ q
      · rw [decide_eq_false h2]
        rw [if_neg (fun z => h2 z.2.1)] at q
        walk_at "pd"
        exact ih _ _ _ q
    · rw [decide_eq_false h1]
      rw [if_neg (fun z => h1 z.1)] at q
      walk_at "pd"
      exact ih _ _ _ q
theorem seenGo_zip (st : List Int) (c t : Int) : ∀ (ts : List Int) (ws : List Wr) (z : Str), seenGo st c t ((ts.zip ws).map (·.1)) ((ts.zip ws).map (·.2)) z = seenGo st c t ts ws z
  | [], _, _ => by simp [seenGo]
  | _ :: _, [], _ => by simp [seenGo]
  | a :: ts, w :: ws, z => by
    simp only [List.zip_cons_cons, List.map_cons, seenGo]
    exact seenGo_zip st c t ts ws _
theorem holds_sign_at : ∀ as Q, F_sign_at as Q → rd_sign_at { nx := fun _ => Q .none, rt := Q } (startP ["plan", "times", "cell", "tick", "_", "stays", "writes", "shown", "time", "write"] as) := by
  rintro _ Q ⟨p, ts, c, t, rfl, hi, q⟩
  unfold rd_sign_at
  walk_at "pd"
  walk_at "pp"
  intro _
  rw [zip_enc]
  refine go_sign Q p _ c t _ _ (ts.zip p.writes) _ _ _ (fun w hw => hi _ (List.of_mem_zip hw).2) ?_
  rw [seenGo_zip]
  exact q

theorem pace_len {rs : List Int} {bs : List (Int × Int)} (h : areRests (pacesD rs) bs = true) : rs.length = bs.length := by
  simp only [pacesD, areRests, Bool.and_eq_true, decide_eq_true_eq, List.length_map] at h
  exact h.1
theorem Plan.ok.le {p : Plan} (o : p.ok) {rs : List Int} (h : areRests (pacesD rs) p.bounds = true) : rs.length ≤ 8 := by
  rw [pace_len h, Plan.bounds, List.length_map]
  exact o.many
theorem holds_ticks : ∀ as Q, F_ticks as Q → rd_ticks { nx := fun _ => Q .none, rt := Q } (startP ["plan", "pace"] as) := by
  rintro _ Q ⟨p, rs, rfl, o, h, q⟩
  unfold rd_ticks
  walk_at "pd"
  refine ⟨_, rfl, o.sm, o.d, p, _, rfl, h, 0, rs, _, rfl, .inl rfl, by have := o.le h; omega, q⟩
theorem whole_in {i lo hi : Int} (h1 : lo ≤ i) (h2 : i ≤ hi) : isWhole (.int i) lo hi = true := by
  simp [isWhole, h1, h2]
theorem holds_seen : ∀ as Q, F_seen as Q → rd_seen { nx := fun _ => Q .none, rt := Q } (startP ["plan", "pace", "cell", "tick"] as) := by
  rintro _ Q ⟨p, rs, c, t, rfl, o, h, hc, ht, q⟩
  unfold rd_seen
  walk_at "pd"
  refine ⟨_, rfl, o.sm, o.d, p, _, rfl, h, p, _, rfl, whole_in hc.1 (by omega), _, 1000, rfl, whole_in ht.1 ht.2, 0, rs, _, rfl, .inl rfl, by have := o.le h; omega, ?_⟩
  exact ⟨p, _, c, t, rfl, o.inks, q⟩
theorem upTo_mem {n x : Int} (h : x ∈ upTo n) : 0 ≤ x ∧ x < n := by
  unfold upTo at h
  obtain ⟨i, hi, rfl⟩ := List.mem_map.mp h
  have := List.mem_range.mp hi
  omega
theorem upTo_len (n : Int) : (upTo n).length = n.toNat := by simp [upTo]
theorem range_upTo (n : Int) : rangeD 0 n.toNat = (upTo n).map PyData.int := by
  unfold rangeD upTo
  rw [List.map_map]
  exact List.map_congr_left fun i _ => by simp
theorem seenGo_one (st : List Int) (c t : Int) : ∀ (ts : List Int) (ws : List Wr) (z : Str), (∀ w ∈ ws, w.sign.length = 1) → z.length = 1 → (seenGo st c t ts ws z).length = 1
  | [], _, z, _, h => h
  | _ :: _, [], z, _, h => h
  | a :: ts, w :: ws, z, hw, h => by
    unfold seenGo
    refine seenGo_one st c t ts ws _ (fun v hv => hw v (by simp [hv])) ?_
    split
    · exact hw w (by simp)
    · exact h
theorem seenAt_one {p : Plan} (h : ∀ w ∈ p.writes, w.sign.length = 1) (ts : List Int) (c t : Int) : (seenAt p ts c t).length = 1 := seenGo_one _ _ _ _ _ _ h rfl
theorem sum_ones {α : Type} (f : α → Str) : ∀ (l : List α), (∀ x ∈ l, (f x).length = 1) → ((l.map f).map (·.length)).sum = l.length
  | [], _ => rfl
  | x :: l, h => by
    have := sum_ones f l fun y hy => h y (by simp [hy])
    simp only [List.map_cons, List.sum_cons, List.length_cons, this, h x (by simp)]
    omega
theorem join_ok {α : Type} {f : α → Str} {l : List α} (h : ∀ x ∈ l, (f x).length = 1) (hl : l.length ≤ 1000) : ((l.map f).map (·.length)).sum + (l.map f).length * ("" : Str).length ≤ 16777216 := by
  rw [sum_ones f l h, show ("" : Str).length = 0 from rfl]
  omega
theorem strs_at {α : Type} (f : α → Str) (l : List α) : dStrs (l.map fun x => PyData.str (f x)) = some (l.map f) := by
  have := strs_map (l.map f)
  rw [List.map_map] at this
  exact this
theorem holds_board : ∀ as Q, F_board as Q → rd_board { nx := fun _ => Q .none, rt := Q } (startP ["plan", "pace", "tick", "times", "cell"] as) := by
  rintro _ Q ⟨p, rs, t, rfl, o, h, ht, q⟩
  unfold rd_board
  walk_at "pd"
  refine ⟨_, rfl, o.sm, o.d, p, _, rfl, h, _, 1000, rfl, whole_in ht.1 ht.2, 0, rs, _, rfl, .inl rfl, by have := o.le h; omega, ?_⟩
  walk_at "pd"
  walk_at "pp"
  have oc := o.cells
  refine ⟨by omega, by omega, fun _ => ?_⟩
  rw [range_upTo]
  refine lcP_enc PyData.int (fun c => .str (seenAt p (sums 0 rs) c t)) _ _ (fun c hc P' p' => ?_) ?_
  · walk_at "pd"
    exact ⟨p, _, c, t, rfl, o.inks, p'⟩
  · exact ⟨_, .inl rfl, _, strs_at _ _, join_ok (fun c _ => seenAt_one o.one _ _ _) (by rw [upTo_len]; omega), q⟩
theorem holds_story : ∀ as Q, F_story as Q → rd_story { nx := fun _ => Q .none, rt := Q } (startP ["plan", "pace", "cell", "last", "times", "tick"] as) := by
  rintro _ Q ⟨p, rs, c, l, rfl, o, h, hc, hl, q⟩
  unfold rd_story
  walk_at "pd"
  refine ⟨_, rfl, o.sm, o.d, p, _, rfl, h, p, _, rfl, whole_in hc.1 (by omega), _, 200, rfl, whole_in hl.1 hl.2, 0, rs, _, rfl, .inl rfl, by have := o.le h; omega, ?_⟩
  walk_at "pd"
  refine ⟨by omega, by omega, fun _ => ?_⟩
  rw [range_upTo]
  refine lcP_enc PyData.int (fun t => .str (seenAt p (sums 0 rs) c t)) _ _ (fun t ht P' p' => ?_) ?_
  · walk_at "pd"
    exact ⟨p, _, c, t, rfl, o.inks, p'⟩
  · exact ⟨_, .inl rfl, _, strs_at _ _, join_ok (fun c _ => seenAt_one o.one _ _ _) (by rw [upTo_len]; omega), q⟩
end PF
namespace PF
open PySem L2 PD
local macro_rules | `(tactic| walk_at "pd") => `(tactic| simp only [sRet, sSeq, sIf, sNext, sNever, sAsg, sDrop, sFor, forP, sAug, sApp, sExt, sOwnL, sPar, sRow, dAndV, dOrV, dNotV, dIs, dVar, dC, dChain, dBin, dUn, fNeg, dTest, dTru, dNot, dAnd, dOr, dIf, dCall, dApp, vCons, vNil, vE, vRow, vScr, dCons, dNil, dTup, dLst, dComp, dIter, dRng1, dRng2, dZip, seqD, aName, aTup_tup, aCons, aNil, fIn0, fInt, fAdd, fOrd, fEq, fNe, fIs, fIsNot, isN, fIx_tup, fIx_lst, at0, at1, at2, at3, at_4, eqOk_int, eqv_int, eqOk_bool, eqv_bool, eqOk_str, eqv_str, eqOk_non, eqv_non, eqOk_nil, eqv_nil, decide_true, decide_false,  fLen, fTuple, fList, fAll, fAny, fIntC, truD, frz, startP, wipeP, dYes, dJoin, dIxO, dLenO, dSl, dPart, dNoPart, fSl,
  List.map_cons, List.map_nil, List.length_cons, List.length_nil, List.replicate, List.cons_append, List.nil_append, List.append_nil, List.getElem?_cons_zero, List.getElem?_cons_succ, List.set_cons_zero, List.set_cons_succ, Option.some.injEq, PV.d.injEq, PV.own.injEq, PV.scr.injEq, PyData.int.injEq, PyData.bool.injEq, PyData.list.injEq, PyData.tuple.injEq, PyData.str.injEq, List.cons.injEq, exists_eq_left', exists_eq_left, exists_eq', exists_eq_right', and_assoc, exists_and_left, Nat.zero_add, Nat.add_zero, Nat.reduceAdd, Nat.reduceSub, Nat.reduceLT, Nat.sub_self, ite_true, if_true, if_false, Bool.false_eq_true, ite_false, Bool.not_true, Bool.not_false, Bool.true_and, Bool.and_true, Bool.false_and, Bool.and_false, Bool.true_or, Bool.or_true, Bool.false_or, Bool.or_false, Bool.and_self, true_and, and_true])
local macro_rules | `(tactic| walk_at "pt") => `(tactic| try walk_at "pd")
local macro_rules | `(tactic| walk_at "pp") => `(tactic| (simp only [wr_ix0, wr_ix1, wr_ix2, wr_ix3, wr_ix4, pl_ix0, pl_ix1, pl_ix2, pl_tup] <;> walk_at "pt"))
/-! ### the law's own helpers -/
def F__law_taken : PF := Ftaken
def F__law_pick : PF := fun as P => ∃ xs : List Dt, as = [.row, .d (.list xs)] ∧ 0 < xs.length ∧ xs.length ≤ 1000 ∧ ∀ x ∈ xs, P x
theorem len__law_pick : ∀ as P, F__law_pick as P → as.length = 2 := by rintro _ P ⟨_, rfl, _⟩; rfl
/-- data down to a depth, without dicts -/
def good : Nat → Dt → Prop
  | _, .none => True
  | _, .bool _ => True
  | _, .int _ => True
  | _, .str _ => True
  | n + 1, .list xs => xs.length ≤ 100000 ∧ ∀ x ∈ xs, good n x
  | n + 1, .tuple xs => xs.length ≤ 100000 ∧ ∀ x ∈ xs, good n x
  | _, _ => False
def Falike : Nat → PF
  | 0 => fun _ _ => False
  | n + 1 => fun as P => ∃ d : Dt, as = [.d d, .d d] ∧ good n d ∧ P (.bool true)
theorem len_alike (n : Nat) : ∀ as P, Falike n as P → as.length = 2 := by
  cases n with
  | zero => intro _ _ h; exact h.elim
  | succ n => rintro _ P ⟨_, rfl, _⟩; rfl
def F__law_alike : PF := Falike 4
structure Drawn (m w : Int) (p : Plan) : Prop where
  cells : 1 ≤ p.cells ∧ p.cells ≤ 2
  stays : 1 ≤ p.stays.length ∧ p.stays.length ≤ 3
  stay : ∀ s ∈ p.stays, 1 ≤ s ∧ s ≤ 6
  many : (p.writes.length : Int) ≤ m
  cell : ∀ x ∈ p.writes, 0 ≤ x.cell ∧ x.cell < p.cells
  sign : ∀ x ∈ p.writes, x.sign = "a" ∨ x.sign = "b" ∨ x.sign = "c"
  ink : ∀ x ∈ p.writes, 0 ≤ x.ink ∧ x.ink < (p.stays.length : Int)
  low : ∀ x ∈ p.writes, 0 ≤ x.low ∧ x.low ≤ 3
  high : ∀ x ∈ p.writes, x.low ≤ x.high ∧ x.high ≤ x.low + w
def F__law_plan : PF := fun as P => ∃ m w : Int, as = [.row, .d (.int m), .d (.int w)] ∧ (0 ≤ m ∧ m ≤ 8) ∧ (0 ≤ w ∧ w ≤ 40) ∧ ∀ p, Drawn m w p → P p.d
theorem len__law_plan : ∀ as P, F__law_plan as P → as.length = 3 := by rintro _ P ⟨_, _, rfl, _⟩; rfl
def F__law_ticks : PF := fun as P => ∃ (rs : List Int) (s : Int) (d : Dt), as = [.d d, .d (.int s)] ∧ (d = .tuple (rs.map .int) ∨ d = .list (rs.map .int)) ∧ rs.length ≤ 1000 ∧ P (.list ((sums s rs).map .int))
theorem len__law_ticks : ∀ as P, F__law_ticks as P → as.length = 2 := by rintro _ P ⟨_, _, _, rfl, _⟩; rfl
def F__law_seen : PF := fun as P => ∃ (p : Plan) (ts : List Int) (c t : Int), as = [.d p.d, .d (.list (ts.map .int)), .d (.int c), .d (.int t)] ∧ p.inks ∧ P (.str (seenAt p ts c t))
theorem len__law_seen : ∀ as P, F__law_seen as P → as.length = 4 := by rintro _ P ⟨_, _, _, _, rfl, _⟩; rfl
def F_law : PF := fun as P => ∃ ns : List Int, as = [.scr ns] ∧ P (.bool true)
theorem len_law : ∀ as P, F_law as P → as.length = 1 := by rintro _ P ⟨_, rfl, _⟩; rfl
def rd__law_pick : PTS :=
  (sRet (dBin fIx (dVar 1) (dCall F__law_taken (vCons (vRow 0) (vCons (vE (dApp fLen (dCons (dVar 1) dNil))) vNil)))))

def rd__law_alike (F__law_alike : PF) : PTS :=
  (sSeq (sIf (dTru (dIs (fun d => isTupD d || isLstD d) (dVar 1))) (sSeq (sIf (dOr (dNot (dTru (dIs (fun d => isTupD d || isLstD d) (dVar 0)))) (dTest (dBin fNe (dIs isLstD (dVar 0)) (dIs isLstD (dVar 1))))) (sRet (dC (.bool false))) sNext)
  (sSeq (sIf (dTest (dBin fNe (dApp fLen (dCons (dVar 0) dNil)) (dApp fLen (dCons (dVar 1) dNil)))) (sRet (dC (.bool false))) sNext)
  (sRet (dBin fEq (dComp (dRng1 (dCons (dApp fLen (dCons (dVar 1) dNil)) dNil)) (aName 2) (dNot (dTru (dCall F__law_alike (vCons (vE (dBin fIx (dVar 0) (dVar 2))) (vCons (vE (dBin fIx (dVar 1) (dVar 2))) vNil))))) (dVar 2) [2]) (dLst dNil))))) sNext)
  (sSeq (sIf (dTru (dIs isDicD (dVar 1))) sNever sNext)
  (sSeq (sIf (dOr (dTest (dBin fIs (dVar 1) (dC .none))) (dTru (dIs isStrD (dVar 1)))) (sRet (dAndV (dBin fEq (dVar 0) (dVar 1)) (dBin fEq (dIs isStrD (dVar 0)) (dIs isStrD (dVar 1))))) sNext)
  (sRet (dAndV (dIs isIntD (dVar 0)) (dAndV (dBin fEq (dIs isBoolD (dVar 0)) (dIs isBoolD (dVar 1))) (dBin fEq (dVar 0) (dVar 1))))))))

def rd__law_plan : PTS :=
  (sSeq (sPar 3 4 (dCons (dBin fAdd (dC (.int 1)) (dCall F__law_taken (vCons (vRow 0) (vCons (vE (dC (.int 2))) vNil)))) (dCons (dBin fAdd (dC (.int 1)) (dCall F__law_taken (vCons (vRow 0) (vCons (vE (dC (.int 3))) vNil)))) dNil)))
  (sSeq (sAsg (dApp fTuple (dCons (dComp (dRng1 (dCons (dVar 4) dNil)) (aName 10) dYes (dBin fAdd (dC (.int 1)) (dCall F__law_taken (vCons (vRow 0) (vCons (vE (dC (.int 6))) vNil)))) [10]) dNil)) (aName 5))
  (sSeq (sOwnL 6 dNil)
  (sSeq (sFor (dRng1 (dCons (dCall F__law_taken (vCons (vRow 0) (vCons (vE (dBin fAdd (dVar 1) (dC (.int 1)))) vNil))) dNil)) (aName 7) (sSeq (sAsg (dCall F__law_pick (vCons (vRow 0) (vCons (vE (dLst (dCons (dC (.int 0)) (dCons (dC (.int 0)) (dCons (dC (.int 1)) (dCons (dC (.int 2)) (dCons (dC (.int 3)) dNil))))))) vNil))) (aName 8))
  (sSeq (sAsg (dCall F__law_pick (vCons (vRow 0) (vCons (vE (dLst (dCons (dC (.str "a")) (dCons (dC (.str "b")) (dCons (dC (.str "c")) dNil))))) vNil))) (aName 9))
  (sApp 6 (dTup (dCons (dCall F__law_taken (vCons (vRow 0) (vCons (vE (dVar 3)) vNil))) (dCons (dVar 9) (dCons (dCall F__law_taken (vCons (vRow 0) (vCons (vE (dVar 4)) vNil))) (dCons (dVar 8) (dCons (dBin fAdd (dVar 8) (dCall F__law_taken (vCons (vRow 0) (vCons (vE (dBin fAdd (dVar 2) (dC (.int 1)))) vNil)))) dNil))))))))))
  (sRet (dTup (dCons (dVar 3) (dCons (dVar 5) (dCons (dApp fTuple (dCons (dVar 6) dNil)) dNil)))))))))

def rd__law_ticks : PTS :=
  (sSeq (sOwnL 2 dNil)
  (sSeq (sFor (dIter (dVar 0)) (aName 3) (sSeq (sAsg (dBin fAdd (dVar 1) (dVar 3)) (aName 1))
  (sApp 2 (dVar 1))))
  (sRet (dVar 2))))

def rd__law_seen : PTS :=
  (sSeq (sAsg (dC (.str ".")) (aName 4))
  (sSeq (sFor (dZip (dCons (dBin fIx (dVar 0) (dC (.int 2))) (dCons (dVar 1) dNil))) (aTup 2 (aCons (aName 5) (aCons (aName 6) aNil))) (sIf (dAnd (dTest (dBin fEq (dBin fIx (dVar 5) (dC (.int 0))) (dVar 2))) (dAnd (dTest (dBin fLe (dVar 6) (dVar 3))) (dTest (dBin fLt (dVar 3) (dBin fAdd (dVar 6) (dBin fIx (dBin fIx (dVar 0) (dC (.int 1))) (dBin fIx (dVar 5) (dC (.int 2))))))))) (sAsg (dBin fIx (dVar 5) (dC (.int 1))) (aName 4)) sNext))
  (sRet (dVar 4))))

theorem holds__law_pick : ∀ as Q, F__law_pick as Q → rd__law_pick { nx := fun _ => Q .none, rt := Q } (startP ["row", "things"] as) := by
  rintro _ Q ⟨xs, rfl, h0, h1, q⟩
  unfold rd__law_pick
  walk_at "pd"
  refine ⟨_, rfl, by omega, by omega, fun x hx0 hx1 => ?_⟩
  walk_at "pd"
  have hl : x.toNat < xs.length := by omega
  refine ⟨xs[x.toNat], ?_, q _ (List.getElem_mem _)⟩
  have e : x = ((x.toNat : Nat) : Int) := by omega
  conv => lhs; rw [e]
  exact atI_nat (List.getElem?_eq_getElem hl)
theorem filter_no (xs : List Dt) : xs.filter (fun _ => false) = [] := by induction xs with
  | nil => rfl
  | cons x xs ih => simpa using ih
theorem range_mem {n : Nat} {x : Dt} (h : x ∈ rangeD 0 n) : ∃ i : Nat, i < n ∧ x = .int i := by
  unfold rangeD at h
  obtain ⟨i, hi, rfl⟩ := List.mem_map.mp h
  exact ⟨i, List.mem_range.mp hi, by simp⟩
theorem good_list {n : Nat} {xs : List Dt} (h : good n (.list xs)) : ∃ m, n = m + 1 ∧ xs.length ≤ 100000 ∧ ∀ x ∈ xs, good m x := by
  cases n with
  | zero => exact h.elim
  | succ m => exact ⟨m, rfl, h⟩
theorem good_tuple {n : Nat} {xs : List Dt} (h : good n (.tuple xs)) : ∃ m, n = m + 1 ∧ xs.length ≤ 100000 ∧ ∀ x ∈ xs, good m x := by
  cases n with
  | zero => exact h.elim
  | succ m => exact ⟨m, rfl, h⟩
theorem hold_alike (n : Nat) : ∀ as Q, Falike (n + 1) as Q → rd__law_alike (Falike n) { nx := fun _ => Q .none, rt := Q } (startP ["found", "due", "k", "key"] as) := by
  rintro _ Q ⟨d, rfl, hg, q⟩
  unfold rd__law_alike
  walk_at "pd"
  cases d <;> simp only [isTupD, isLstD, isDicD, isStrD, isIntD, isBoolD] <;> walk_at "pt" <;> try exact q
  · obtain ⟨m, rfl, hl, hx⟩ := good_list hg
    refine ⟨by omega, by omega, fun _ => ?_⟩
    refine lcP_filter0 (fun _ => false) id _ _ (fun x hm Pt Pf h => ?_) ?_
    · obtain ⟨i, hi, rfl⟩ := range_mem hm
      walk_at "pd"
      rw [Int.toNat_natCast] at hi
      rename_i xs _
      have g : atI xs (i : Int) = some xs[i] := atI_nat (List.getElem?_eq_getElem hi)
      refine ⟨_, g, _, g, xs[i], rfl, hx _ (List.getElem_mem _), _, rfl, ?_⟩
      simpa using h
    · rw [filter_no]
      walk_at "pd"
      exact ⟨by decide, q⟩
  · obtain ⟨m, rfl, hl, hx⟩ := good_tuple hg
    refine ⟨by omega, by omega, fun _ => ?_⟩
    refine lcP_filter0 (fun _ => false) id _ _ (fun x hm Pt Pf h => ?_) ?_
    · obtain ⟨i, hi, rfl⟩ := range_mem hm
      walk_at "pd"
      rw [Int.toNat_natCast] at hi
      rename_i xs _
      have g : atI xs (i : Int) = some xs[i] := atI_nat (List.getElem?_eq_getElem hi)
      refine ⟨_, g, _, g, xs[i], rfl, hx _ (List.getElem_mem _), _, rfl, ?_⟩
      simpa using h
    · rw [filter_no]
      walk_at "pd"
      exact ⟨by decide, q⟩
  · cases n <;> exact hg
theorem go_ticks (Q : Dt → Prop) (d : Dt) : ∀ (rs : List Int) (acc : List Dt) (t : Int) (x : PV), acc.length + rs.length ≤ 2000 → Q (.list (acc ++ (sums t rs).map .int)) →
    forP (aName 3) (sSeq (sAsg (dBin fAdd (dVar 1) (dVar 3)) (aName 1)) (sApp 2 (dVar 1))) { nx := sRet (dVar 2) { nx := fun _ => Q .none, rt := Q }, rt := Q } (rs.map .int) [.d d, .d (.int t), .own (.list acc), x]
  | [], acc, t, x, _, q => by
    walk_at "pd"
    simpa [sums] using q
  | r :: rs, acc, t, x, hl, q => by
    walk_at "pd"
    refine ⟨by rw [line_eq]; simp only [List.length_cons] at hl; omega, go_ticks Q d rs _ _ _ (by simp only [List.length_append, List.length_cons, List.length_nil] at hl ⊢; omega) ?_⟩
    simpa [sums] using q
theorem holds__law_ticks : ∀ as Q, F__law_ticks as Q → rd__law_ticks { nx := fun _ => Q .none, rt := Q } (startP ["rests", "first", "found", "rest"] as) := by
  rintro _ Q ⟨rs, s, d, rfl, hd, hl, q⟩
  unfold rd__law_ticks
  walk_at "pd"
  rcases hd with rfl | rfl
  all_goals
    walk_at "pt"
    refine ⟨by decide, fun _ => ?_⟩
    exact go_ticks Q _ rs [] s _ (by simp only [List.length_nil]; omega) (by simpa using q)
theorem go_lseen (Q : Dt → Prop) (p : Plan) (td : Dt) (c t : Int) : ∀ (l : List (Wr × Int)) (z : Str) (x8 x9 : PV), (∀ w ∈ l, 0 ≤ w.1.ink ∧ w.1.ink < (p.stays.length : Int)) → Q (.str (seenGo p.stays c t (l.map (·.2)) (l.map (·.1)) z)) →
    forP (aTup 2 (aCons (aName 5) (aCons (aName 6) aNil))) (sIf (dAnd (dTest (dBin fEq (dBin fIx (dVar 5) (dC (.int 0))) (dVar 2))) (dAnd (dTest (dBin fLe (dVar 6) (dVar 3))) (dTest (dBin fLt (dVar 3) (dBin fAdd (dVar 6) (dBin fIx (dBin fIx (dVar 0) (dC (.int 1))) (dBin fIx (dVar 5) (dC (.int 2))))))))) (sAsg (dBin fIx (dVar 5) (dC (.int 1))) (aName 4)) sNext)
      { nx := sRet (dVar 4) { nx := fun _ => Q .none, rt := Q }, rt := Q } (l.map fun w => .tuple [w.1.d, .int w.2]) [.d p.d, .d td, .d (.int c), .d (.int t), .d (.str z), x8, x9]
  | [], z, x8, x9, _, q => by
    walk_at "pd"
    exact q
  | w :: l, z, x8, x9, hi, q => by
    have h := hi w (by simp)
    have ih := fun z x8 x9 => go_lseen Q p td c t l z x8 x9 fun v hv => hi v (by simp [hv])
    simp only [List.map_cons, seenGo] at q
    walk_at "pd"
    walk_at "pp"
    by_cases h1 : w.1.cell = c
    · rw [decide_eq_true h1]
      walk_at "pd"
      by_cases h2 : w.2 ≤ t
      · rw [decide_eq_true h2]
        walk_at "pd"
        refine ⟨_, getD_at h.1 h.2, ?_⟩
        walk_at "pd"
        refine ite_b (fun h3 => ?_) fun h3 => ?_
        · rw [if_pos ⟨h1, h2, of_decide_eq_true h3⟩] at q
          exact ih _ _ _ q
        · rw [if_neg (fun z => of_decide_eq_false h3 z.2.2)] at q
          exact ih _ _ _ q
      · rw [decide_eq_false h2]
        rw [if_neg (fun z => h2 z.2.1)] at q
        walk_at "pd"
        exact ih _ _ _ q
    · rw [decide_eq_false h1]
      rw [if_neg (fun z => h1 z.1)] at q
      walk_at "pd"
      exact ih _ _ _ q
theorem seenGo_zip2 (st : List Int) (c t : Int) : ∀ (ws : List Wr) (ts : List Int) (z : Str), seenGo st c t ((ws.zip ts).map (·.2)) ((ws.zip ts).map (·.1)) z = seenGo st c t ts ws z
  | [], ts, _ => by cases ts <;> simp [seenGo]
  | _ :: _, [], _ => by simp [seenGo]
  | a :: ws, t' :: ts, z => by
    simp only [List.zip_cons_cons, List.map_cons, seenGo]
    exact seenGo_zip2 st c t ws ts _
theorem holds__law_seen : ∀ as Q, F__law_seen as Q → rd__law_seen { nx := fun _ => Q .none, rt := Q } (startP ["plan", "told", "cell", "tick", "found", "write", "done"] as) := by
  rintro _ Q ⟨p, ts, c, t, rfl, hi, q⟩
  unfold rd__law_seen
  walk_at "pd"
  walk_at "pp"
  intro _
  rw [zip_enc]
  refine go_lseen Q p _ c t (p.writes.zip ts) _ _ _ (fun w hw => hi _ (List.of_mem_zip hw).1) ?_
  rw [seenGo_zip2]
  exact q

/-- what a draw hands on -/
theorem paired_ints {α : Type} {R : Dt → Dt → Prop} {C : Int → Prop} (hR : ∀ x y, R x y → ∃ i, y = .int i ∧ C i) : ∀ {xs ys : List Dt}, Paired R xs ys → ∃ is : List Int, ys = is.map .int ∧ is.length = xs.length ∧ ∀ i ∈ is, C i
  | _, _, .nil => ⟨[], rfl, rfl, by simp⟩
  | _, _, .cons h t => by
    obtain ⟨i, rfl, hi⟩ := hR _ _ h
    obtain ⟨is, rfl, hl, hc⟩ := paired_ints (α := α) hR t
    exact ⟨i :: is, rfl, by simp [hl], by simpa using ⟨hi, hc⟩⟩
def rd_turn : PTS := (sSeq (sAsg (dCall F__law_pick (vCons (vRow 0) (vCons (vE (dLst (dCons (dC (.int 0)) (dCons (dC (.int 0)) (dCons (dC (.int 1)) (dCons (dC (.int 2)) (dCons (dC (.int 3)) dNil))))))) vNil))) (aName 8))
  (sSeq (sAsg (dCall F__law_pick (vCons (vRow 0) (vCons (vE (dLst (dCons (dC (.str "a")) (dCons (dC (.str "b")) (dCons (dC (.str "c")) dNil))))) vNil))) (aName 9))
  (sApp 6 (dTup (dCons (dCall F__law_taken (vCons (vRow 0) (vCons (vE (dVar 3)) vNil))) (dCons (dVar 9) (dCons (dCall F__law_taken (vCons (vRow 0) (vCons (vE (dVar 4)) vNil))) (dCons (dVar 8) (dCons (dBin fAdd (dVar 8) (dCall F__law_taken (vCons (vRow 0) (vCons (vE (dBin fAdd (dVar 2) (dC (.int 1)))) vNil)))) dNil)))))))))
structure WrOk (cells inks w : Int) (x : Wr) : Prop where
  cell : 0 ≤ x.cell ∧ x.cell < cells
  sign : x.sign = "a" ∨ x.sign = "b" ∨ x.sign = "c"
  ink : 0 ≤ x.ink ∧ x.ink < inks
  low : 0 ≤ x.low ∧ x.low ≤ 3
  high : x.low ≤ x.high ∧ x.high ≤ x.low + w
theorem go_plan (Q : Dt → Prop) (m w c n : Int) (hw : 0 ≤ w ∧ w ≤ 40) (hc : 1 ≤ c ∧ c ≤ 2) (hn : 1 ≤ n ∧ n ≤ 3) (st : Dt) (x10 : PV) : ∀ (xs : List Dt) (acc : List Wr) (x7 x8 x9 : PV), acc.length + xs.length ≤ 1000 → (∀ x ∈ acc, WrOk c n w x) →
    (∀ ws : List Wr, ws.length = acc.length + xs.length → (∀ x ∈ ws, WrOk c n w x) → Q (.tuple [.int c, st, .tuple (ws.map Wr.d)])) →
    forP (aName 7) rd_turn { nx := sRet (dTup (dCons (dVar 3) (dCons (dVar 5) (dCons (dApp fTuple (dCons (dVar 6) dNil)) dNil)))) { nx := fun _ => Q .none, rt := Q }, rt := Q } xs
      [.row, .d (.int m), .d (.int w), .d (.int c), .d (.int n), .d st, .own (.list (acc.map Wr.d)), x7, x8, x9, x10]
  | [], acc, x7, x8, x9, hl, ha, q => by
    walk_at "pd"
    exact ⟨by decide, q acc rfl ha⟩
  | x :: xs, acc, x7, x8, x9, hl, ha, q => by
    unfold rd_turn
    walk_at "pd"
    refine ⟨by decide, _, rfl, by simp, by simp, fun y hy => ?_⟩
    obtain ⟨lo, rfl, hlo⟩ : ∃ lo : Int, y = .int lo ∧ 0 ≤ lo ∧ lo ≤ 3 := by
      simp only [List.mem_cons, List.not_mem_nil, or_false] at hy
      rcases hy with rfl | rfl | rfl | rfl | rfl <;> exact ⟨_, rfl, by decide, by decide⟩
    refine ⟨by decide, _, rfl, by simp, by simp, fun y hy => ?_⟩
    obtain ⟨sg, rfl, hsg⟩ : ∃ sg : Str, y = .str sg ∧ (sg = "a" ∨ sg = "b" ∨ sg = "c") := by
      simp only [List.mem_cons, List.not_mem_nil, or_false] at hy
      rcases hy with rfl | rfl | rfl
      · exact ⟨_, rfl, .inl rfl⟩
      · exact ⟨_, rfl, .inr (.inl rfl)⟩
      · exact ⟨_, rfl, .inr (.inr rfl)⟩
    refine ⟨c, rfl, by omega, by omega, fun ce h1 h2 => ?_⟩
    refine ⟨n, rfl, by omega, by omega, fun ik h3 h4 => ?_⟩
    walk_at "pd"
    refine ⟨w + 1, rfl, by omega, by omega, fun hi h5 h6 => ?_⟩
    walk_at "pd"
    refine ⟨by decide, by rw [line_eq, List.length_map]; simp only [List.length_cons] at hl; omega, ?_⟩
    have ih := go_plan Q m w c n hw hc hn st x10 xs (acc ++ [⟨ce, sg, ik, lo, lo + hi⟩])
    rw [List.map_append] at ih
    unfold rd_turn at ih
    refine ih _ _ _ (by simp only [List.length_append, List.length_cons, List.length_nil] at hl ⊢; omega) (fun y hy => ?_) fun ws hl2 hw2 => q ws (by simp only [List.length_append, List.length_cons, List.length_nil] at hl2 ⊢; omega) hw2
    rcases List.mem_append.mp hy with hy | hy
    · exact ha y hy
    · rw [List.mem_singleton] at hy
      subst hy
      exact ⟨⟨h1, h2⟩, hsg, ⟨h3, h4⟩, hlo, ⟨by show lo ≤ lo + hi; omega, by show lo + hi ≤ lo + w; omega⟩⟩
theorem holds__law_plan : ∀ as Q, F__law_plan as Q → rd__law_plan { nx := fun _ => Q .none, rt := Q } (startP ["row", "most", "wide", "cells", "inks", "stays", "writes", "turn", "low", "sign", "ink"] as) := by
  rintro _ Q ⟨m, w, rfl, hm, hw, q⟩
  unfold rd__law_plan
  walk_at "pd"
  refine ⟨2, rfl, by decide, by decide, fun c0 h1 h2 => ?_⟩
  walk_at "pd"
  refine ⟨3, rfl, by decide, by decide, fun n0 h3 h4 => ?_⟩
  walk_at "pd"
  refine ⟨by omega, by omega, fun _ => ?_⟩
  refine lcP_rel0 (fun _ y => ∃ s : Int, y = .int s ∧ 1 ≤ s ∧ s ≤ 6) _ _ (fun x _ P' p' => ?_) fun ys hys => ?_
  · walk_at "pd"
    refine ⟨6, rfl, by decide, by decide, fun s h5 h6 => ?_⟩
    walk_at "pd"
    exact p' _ ⟨_, rfl, by omega, by omega⟩
  · obtain ⟨ss, rfl, hl, hss⟩ := paired_ints (α := Unit) (C := fun s => 1 ≤ s ∧ s ≤ 6) (fun _ _ h => h) hys
    rw [rangeD_length] at hl
    refine ⟨by decide, m + 1, rfl, by omega, by omega, fun k h5 h6 => ?_⟩
    walk_at "pd"
    refine ⟨by omega, by omega, fun _ => ?_⟩
    refine go_plan Q m w (1 + c0) (1 + n0) hw (by omega) (by omega) _ _ _ [] _ _ _ (by simp [rangeD_length]; omega) (by simp) fun ws hl2 hws => ?_
    have hl3 : ws.length = k.toNat := by simpa [rangeD_length] using hl2
    have hln : (ss.length : Int) = 1 + n0 := by omega
    exact q ⟨1 + c0, ss, ws⟩ ⟨by show 1 ≤ 1 + c0 ∧ 1 + c0 ≤ 2; omega, by show 1 ≤ ss.length ∧ ss.length ≤ 3; omega, hss, by show (ws.length : Int) ≤ m; omega, fun x hx => (hws x hx).cell, fun x hx => (hws x hx).sign, fun x hx => by show 0 ≤ x.ink ∧ x.ink < (ss.length : Int); rw [hln]; exact (hws x hx).ink, fun x hx => (hws x hx).low, fun x hx => (hws x hx).high⟩
end PF
namespace PF
open PySem L2 PD
local macro_rules | `(tactic| walk_at "pd") => `(tactic| simp only [sRet, sSeq, sIf, sNext, sNever, sAsg, sDrop, sFor, forP, sAug, sApp, sExt, sOwnL, sPar, sRow, dAndV, dOrV, dNotV, dIs, dVar, dC, dChain, dBin, dUn, fNeg, dTest, dTru, dNot, dAnd, dOr, dIf, dCall, dApp, vCons, vNil, vE, vRow, vScr, dCons, dNil, dTup, dLst, dComp, dIter, dRng1, dRng2, dZip, seqD, aName, aTup_tup, aCons, aNil, fIn0, fInt, fAdd, fOrd, fEq, fNe, fIs, fIsNot, isN, fIx_tup, fIx_lst, at0, at1, at2, at3, at_4, eqOk_int, eqv_int, eqOk_bool, eqv_bool, eqOk_str, eqv_str, eqOk_non, eqv_non, eqOk_nil, eqv_nil, decide_true, decide_false,  fLen, fTuple, fList, fAll, fAny, fIntC, truD, frz, startP, wipeP, dYes, dJoin, dIxO, dLenO, dSl, dPart, dNoPart, fSl,
  List.map_cons, List.map_nil, List.length_cons, List.length_nil, List.replicate, List.cons_append, List.nil_append, List.append_nil, List.getElem?_cons_zero, List.getElem?_cons_succ, List.set_cons_zero, List.set_cons_succ, Option.some.injEq, PV.d.injEq, PV.own.injEq, PV.scr.injEq, PyData.int.injEq, PyData.bool.injEq, PyData.list.injEq, PyData.tuple.injEq, PyData.str.injEq, List.cons.injEq, exists_eq_left', exists_eq_left, exists_eq', exists_eq_right', and_assoc, exists_and_left, Nat.zero_add, Nat.add_zero, Nat.reduceAdd, Nat.reduceSub, Nat.reduceLT, Nat.sub_self, ite_true, if_true, if_false, Bool.false_eq_true, ite_false, Bool.not_true, Bool.not_false, Bool.true_and, Bool.and_true, Bool.false_and, Bool.and_false, Bool.true_or, Bool.or_true, Bool.false_or, Bool.or_false, Bool.and_self, true_and, and_true])
local macro_rules | `(tactic| walk_at "pt") => `(tactic| try walk_at "pd")
theorem lcP_relE' {α : Type} {g : PTG} {te : PT0} {ρ : List PV} (enc : α → Dt) (R : α → Dt → Prop) : ∀ (ws : List α) (acc : List Dt) (P : List Dt → Prop), (∀ w ∈ ws, ∀ P' : Dt → Prop, (∀ y, R w y → P' y) → g (enc w) ρ fun ρ1 => te ρ1 P') → (∀ ys, Paired R ws ys → P (acc ++ ys)) → lcP g dYes te ρ (ws.map enc) acc P
  | [], acc, P, _, h => by simpa [lcP] using h [] .nil
  | x :: xs, acc, P, hx, h => by
    rw [List.map_cons]
    unfold lcP
    simp only [dYes, if_true]
    refine hx x (by simp) _ fun y hy => lcP_relE' enc R xs (acc ++ [y]) P (fun y hy => hx y (by simp [hy])) fun ys hr => ?_
    simpa using h (y :: ys) (.cons hy hr)
theorem lcP_relE {α : Type} {g : PTG} {te : PT0} {ρ : List PV} (enc : α → Dt) (R : α → Dt → Prop) (ws : List α) (P : List Dt → Prop) (h : ∀ w ∈ ws, ∀ P' : Dt → Prop, (∀ y, R w y → P' y) → g (enc w) ρ fun ρ1 => te ρ1 P') (p : ∀ ys, Paired R ws ys → P ys) : lcP g dYes te ρ (ws.map enc) [] P := lcP_relE' enc R ws [] P h (by simpa using p)
theorem paired_typed {α : Type} {R : α → Dt → Prop} {C : α → Int → Prop} (hR : ∀ x y, R x y → ∃ i, y = .int i ∧ C x i) : ∀ {xs : List α} {ys : List Dt}, Paired R xs ys → ∃ is : List Int, ys = is.map .int ∧ Paired C xs is
  | _, _, .nil => ⟨[], rfl, .nil⟩
  | _, _, .cons h t => by
    obtain ⟨i, rfl, hi⟩ := hR _ _ h
    obtain ⟨is, rfl, hc⟩ := paired_typed hR t
    exact ⟨i :: is, rfl, .cons hi hc⟩
theorem rests_ok : ∀ {ws : List Wr} {rs : List Int}, Paired (fun (w : Wr) r => w.low ≤ r ∧ r ≤ w.high) ws rs → restsOk (rs.map .int) (ws.map fun w => (w.low, w.high)) = true
  | _, _, .nil => rfl
  | _, _, .cons h t => by simp [restsOk, whole_in h.1 h.2, rests_ok t]
theorem pace_ok {p : Plan} {rs : List Int} (h : Paired (fun (w : Wr) r => w.low ≤ r ∧ r ≤ w.high) p.writes rs) : areRests (pacesD rs) p.bounds = true := by
  have hl := Paired.length h
  simp [areRests, pacesD, Plan.bounds, rests_ok h, hl]
theorem letters : isLetter (.str "a") = true ∧ isLetter (.str "b") = true ∧ isLetter (.str "c") = true ∧ isLetter (.str "A") = false ∧ isLetter (.str "ab") = false := by decide +kernel
theorem Drawn.letter {m w : Int} {p : Plan} (h : Drawn m w p) {x : Wr} (hx : x ∈ p.writes) : isLetter (.str x.sign) = true ∧ x.sign.length = 1 := by
  rcases h.sign x hx with e | e | e <;> rw [e]
  · exact ⟨letters.1, rfl⟩
  · exact ⟨letters.2.1, rfl⟩
  · exact ⟨letters.2.2.1, rfl⟩
theorem smDs_ints : ∀ l : List Int, smDs (l.map .int) = true
  | [] => rfl
  | _ :: l => by simp [smDs, smD, smDs_ints l]
theorem smDs_all {α : Type} {f : α → Dt} : ∀ {l : List α}, (∀ x ∈ l, smD (f x) = true) → smDs (l.map f) = true
  | [], _ => rfl
  | x :: l, h => by
    have ih : smDs (l.map f) = true := smDs_all fun y hy => h y (List.mem_cons_of_mem _ hy)
    simp [smDs, h x (by simp), ih]
theorem Drawn.ok {m w : Int} {p : Plan} (h : Drawn m w p) (hm : m ≤ 8) (hw : w ≤ 40) : p.ok := by
  have h1 := h.cells
  have h2 := h.stays
  have h3 := h.many
  refine ⟨?_, ?_, h.ink, by omega, by omega, fun x hx => (h.letter hx).2⟩
  · simp only [Plan.d, isPlan, elems, intOf, Bool.and_eq_true, List.all_eq_true]
    refine ⟨⟨⟨⟨whole_in h1.1 (by omega), ?_⟩, ?_⟩, fun x hx => ?_⟩, fun x hx => ?_⟩
    · simp only [isRow, List.length_map, Bool.and_eq_true, decide_eq_true_eq]
      omega
    · simp only [isRow, List.length_map, Bool.and_eq_true, decide_eq_true_eq]
      omega
    · obtain ⟨s, hs, rfl⟩ := List.mem_map.mp hx
      have := h.stay s hs
      exact whole_in this.1 (by omega)
    · obtain ⟨y, hy, rfl⟩ := List.mem_map.mp hx
      have a := h.cell y hy
      have b := h.ink y hy
      have c := h.low y hy
      have d := h.high y hy
      simp only [Wr.d, isWrite, isSpan, Bool.and_eq_true, decide_eq_true_eq, List.length_map]
      exact ⟨⟨⟨whole_in a.1 (by omega), (h.letter hy).1⟩, whole_in b.1 (by omega)⟩, ⟨by omega, by omega⟩, whole_in d.1 (by omega)⟩
  · simp only [Plan.d, smD, smDs, Bool.and_eq_true, smDs_ints, true_and, and_true]
    refine smDs_all fun x hx => ?_
    simp [Wr.d, smD, smDs, (h.letter hx).2]
theorem no_row {ρ : List PV} (h : ∀ p ∈ ρ, p ≠ PV.row) : ∀ k : Nat, ρ[k]? ≠ some PV.row := fun k e => h _ (List.mem_of_getElem? e) rfl
theorem good_ints (n : Nat) (l : List Int) (h : l.length ≤ 100000) : good (n + 1) (.tuple (l.map .int)) := ⟨by simpa using h, fun x hx => by
  obtain ⟨i, _, rfl⟩ := List.mem_map.mp hx
  cases n <;> trivial⟩
theorem forP_inv {g : PTG} {tb : PTS} (I : List PV → Prop) (C : Dt → Prop) {nx : List PV → Prop} {rt : Dt → Prop} (step : ∀ x, C x → ∀ ρ, I ρ → ∀ nx' : List PV → Prop, (∀ ρ', I ρ' → nx' ρ') → g x ρ fun ρ1 => tb { nx := nx', rt := rt, ct := nx', bk := nx } ρ1) (fin : ∀ ρ, I ρ → nx ρ) : ∀ (xs : List Dt) (ρ : List PV), (∀ x ∈ xs, C x) → I ρ → forP g tb { nx := nx, rt := rt } xs ρ
  | [], ρ, _, h => fin ρ h
  | x :: xs, ρ, hc, h => step x (hc x (by simp)) ρ h _ fun ρ' h' => forP_inv I C step fin xs ρ' (fun y hy => hc y (by simp [hy])) h'
theorem asg_step {te : PT0} {i : Nat} {t : PTS} {P : PEnds} {ρ : List PV} (d : Dt) (h : ∀ Q : Dt → Prop, Q d → te ρ Q) (k : t P (ρ.set i (.d d))) : sSeq (sAsg te (aName i)) t P ρ := h _ k
end PF
namespace PF
open PySem L2 PD
local macro_rules | `(tactic| walk_at "pd") => `(tactic| simp only [fMulS0, xRaiseF, fEqS, sClos, cLst, cVar, cAdd, dNo, xTold, xSeq, xOf, xIf, xRaise, xNext, xDrop, xCall, xMeth, xMake, xRet, xSet, dErr, dMethZ, dTruF, sPopF, sFldS, sMake, sRetErr, sOwnT, sPutT, dGet2, dInT, dGetT, sOwnF, sSeqO, sRetO, sParL, sParT, dLenSet, sOwnR, sSet, fMin, fSum, kt_inj, tup_pairI, dEnum, enumD, enumFromD, isTupD, dFldZ, dFldO, sFldD, sFldA, sFldL, sFldApp, sMeth, dMethO, dMethN, nMake, sMakeP, PV.ins.injEq, PV.obj.injEq, fMax, fNotInI, fInI, fNotInX, sRet, sSeq, sIf, sNext, sNever, sAsg, sDrop, sFor, forP, sAug, sApp, sExt, sOwnL, sPar, sRow, dAndV, dOrV, dNotV, dIs, dVar, dC, dChain, dBin, dUn, fNeg, dTest, dTru, dNot, dAnd, dOr, dIf, dCall, dApp, vCons, vNil, vE, vRow, vScr, dCons, dNil, dTup, dLst, dComp, dIter, dRng1, dRng2, dZip, seqD, aName, aTup_tup, aCons, aNil, fIn0, fInt, fAdd, fOrd, fEq, fNe, fIs, fIsNot, isN, fIx_tup, fIx_lst, at0, at1, at2, at3, at_4, eqOk_int, eqv_int, eqOk_bool, eqv_bool, eqOk_str, eqv_str, eqOk_non, eqv_non, eqOk_nil, eqv_nil, decide_true, decide_false,  fLen, fTuple, fList, fAll, fAny, fIntC, truD, frz, startP, wipeP, dYes, dJoin, dIxO, dLenO, dSl, dPart, dNoPart, fSl, sRng1, sOwn2, sPar3O, sOwnN, dTupO, dRevT, dIdx, sExtT, sPar3O, sPop, dTruO, sWhile, sPutK, sOwnK, dInO, dIterR, dListO, dInD, dGetD, dIterD, dEnum, fListD, fListS, dIterS, PV.rng.injEq,
  List.map_cons, List.map_nil, List.length_cons, List.length_nil, List.replicate, List.cons_append, List.nil_append, List.append_nil, List.getElem?_cons_zero, List.getElem?_cons_succ, List.set_cons_zero, List.set_cons_succ, Option.some.injEq, PV.d.injEq, PV.own.injEq, PV.scr.injEq, PyData.int.injEq, PyData.bool.injEq, PyData.list.injEq, PyData.tuple.injEq, PyData.str.injEq, List.cons.injEq, exists_eq_left', exists_eq_left, exists_eq', exists_eq_right', and_assoc, exists_and_left, Nat.zero_add, Nat.add_zero, Nat.reduceAdd, Nat.reduceSub, Nat.reduceLT, Nat.sub_self, ite_true, if_true, if_false, Bool.false_eq_true, ite_false, Bool.not_true, Bool.not_false, Bool.true_and, Bool.and_true, Bool.false_and, Bool.and_false, Bool.true_or, Bool.or_true, Bool.false_or, Bool.or_false, Bool.and_self, true_and, and_true])
local macro_rules | `(tactic| walk_at "pt") => `(tactic| try walk_at "pd")
local macro_rules | `(tactic| walk_at "pp") => `(tactic| (simp only [wr_ix0, wr_ix1, wr_ix2, wr_ix3, wr_ix4, pl_ix0, pl_ix1, pl_ix2, pl_tup] <;> walk_at "pt"))
local macro_rules | `(tactic| walk_at "pq") => `(tactic| try walk_at "pp")
/-! ### errors -/
structure XA where
  BadPlan : Addr
  BadPace : Addr
  NoCell : Addr
  BadTick : Addr
  NoSign : Addr
  NoInk : Addr
  Unlike : Addr
  InkError : Addr
def clauses (xa : XA) : List (Addr × Str) := [(xa.BadPlan, "BadPlan"), (xa.BadPace, "BadPace"), (xa.NoCell, "NoCell"), (xa.BadTick, "BadTick"), (xa.NoSign, "NoSign"), (xa.NoInk, "NoInk"), (xa.Unlike, "Unlike"), (xa.InkError, "other")]
structure XT (K : Fg) (xa : XA) : Prop where
  BadPlan : caughtBy K (clauses xa) xa.BadPlan = some ("BadPlan" : Str)
  BadPace : caughtBy K (clauses xa) xa.BadPace = some ("BadPace" : Str)
  NoCell : caughtBy K (clauses xa) xa.NoCell = some ("NoCell" : Str)
  BadTick : caughtBy K (clauses xa) xa.BadTick = some ("BadTick" : Str)
  NoSign : caughtBy K (clauses xa) xa.NoSign = some ("NoSign" : Str)
  NoInk : caughtBy K (clauses xa) xa.NoInk = some ("NoInk" : Str)
  Unlike : caughtBy K (clauses xa) xa.Unlike = some ("Unlike" : Str)
/-! ### signs -/
def isSignD (d : Dt) : Bool := match d with
  | .str z => decide (z = ".") || isLetter (.str z)
  | _ => false
def F_is_sign : PF := fun as P => ∃ d : Dt, as = [.d d] ∧ smD d = true ∧ ((∃ z, d = .str z) ∨ d = .none ∨ (∃ i, d = .int i) ∨ ∃ b, d = .bool b) ∧ P (.bool (isSignD d))
theorem len_is_sign : ∀ as P, F_is_sign as P → as.length = 1 := by rintro _ P ⟨_, rfl, _⟩; rfl
def rd_is_sign : PTS :=
  (sRet (dOrV (dBin fEqS (dVar 0) (dC (.str "."))) (dCall F_is_letter (vCons (vE (dVar 0)) vNil))))

theorem holds_is_sign : ∀ as Q, F_is_sign as Q → rd_is_sign { nx := fun _ => Q .none, rt := Q } (startP ["value"] as) := by
  rintro _ Q ⟨d, rfl, hs, hd, q⟩
  unfold rd_is_sign
  walk_at "pd"
  rcases hd with ⟨z, rfl⟩ | rfl | ⟨i, rfl⟩ | ⟨b, rfl⟩
  · show (if decide (z = ".") = true then Q (.bool true) else F_is_letter [.d (.str z)] Q)
    by_cases h : z = "."
    · rw [if_pos (by simpa using h)]
      rw [show isSignD (.str z) = true by show (decide (z = ".") || _) = true; rw [decide_eq_true h]; rfl] at q
      exact q
    · rw [if_neg (by simpa using h)]
      refine ⟨_, rfl, hs, ?_⟩
      rw [show isSignD (.str z) = isLetter (.str z) by show (decide (z = ".") || _) = _; rw [decide_eq_false h]; rfl] at q
      exact q
  · exact ⟨_, rfl, hs, q⟩
  · exact ⟨_, rfl, hs, q⟩
  · exact ⟨_, rfl, hs, q⟩
/-! ### what raises -/
def FX_check_plan (xa : XA) : PFX := fun as P R => ∃ d : Dt, as = [.d d] ∧ smD d = true ∧ ((isPlan d = false ∧ R ⟨xa.BadPlan, none⟩) ∨ (isPlan d = true ∧ P .none))
theorem lenx_check_plan (xa : XA) : ∀ as P R, FX_check_plan xa as P R → as.length = 1 := by rintro _ P R ⟨_, rfl, _⟩; rfl
def rdx_check_plan (xa : XA) : PTX :=
  (xIf (dNot (dTru (dCall F_is_plan (vCons (vE (dVar 0)) vNil)))) (xRaise xa.BadPlan) xNext)

theorem holdsx_check_plan (xa : XA) : ∀ as Q R, FX_check_plan xa as Q R → rdx_check_plan xa { nx := fun _ => Q .none, rt := Q } R (startP ["plan"] as) := by
  rintro _ Q R ⟨d, rfl, hs, hp⟩
  unfold rdx_check_plan
  walk_at "pd"
  refine ⟨d, rfl, hs, ?_⟩
  rcases hp with ⟨h, q⟩ | ⟨h, q⟩
  · rw [h]
    walk_at "pt"
    exact q
  · rw [h]
    walk_at "pt"
    exact q
def FX_check_pace (xa : XA) : PFX := fun as P R => ∃ (p : Plan) (d : Dt), as = [.d p.d, .d d] ∧ ((areRests d p.bounds = false ∧ R ⟨xa.BadPace, none⟩) ∨ (areRests d p.bounds = true ∧ P .none))
theorem lenx_check_pace (xa : XA) : ∀ as P R, FX_check_pace xa as P R → as.length = 2 := by rintro _ P R ⟨_, _, rfl, _⟩; rfl
def rdx_check_pace (xa : XA) : PTX :=
  (xIf (dNot (dTru (dCall F_is_pace (vCons (vE (dVar 0)) (vCons (vE (dVar 1)) vNil))))) (xRaise xa.BadPace) xNext)

theorem holdsx_check_pace (xa : XA) : ∀ as Q R, FX_check_pace xa as Q R → rdx_check_pace xa { nx := fun _ => Q .none, rt := Q } R (startP ["plan", "pace"] as) := by
  rintro _ Q R ⟨p, d, rfl, hp⟩
  unfold rdx_check_pace
  walk_at "pd"
  refine ⟨p, d, rfl, ?_⟩
  rcases hp with ⟨h, q⟩ | ⟨h, q⟩
  · rw [h]
    walk_at "pt"
    exact q
  · rw [h]
    walk_at "pt"
    exact q
def FX_check_cell (xa : XA) : PFX := fun as P R => ∃ (p : Plan) (d : Dt), as = [.d p.d, .d d] ∧ ((isWhole d 0 (p.cells - 1) = false ∧ R ⟨xa.NoCell, none⟩) ∨ (isWhole d 0 (p.cells - 1) = true ∧ P .none))
theorem lenx_check_cell (xa : XA) : ∀ as P R, FX_check_cell xa as P R → as.length = 2 := by rintro _ P R ⟨_, _, rfl, _⟩; rfl
def rdx_check_cell (xa : XA) : PTX :=
  (xIf (dNot (dTru (dCall F_is_whole (vCons (vE (dVar 1)) (vCons (vE (dC (.int 0))) (vCons (vE (dBin fSub (dBin fIx (dVar 0) (dC (.int 0))) (dC (.int 1)))) vNil)))))) (xRaise xa.NoCell) xNext)

theorem holdsx_check_cell (xa : XA) : ∀ as Q R, FX_check_cell xa as Q R → rdx_check_cell xa { nx := fun _ => Q .none, rt := Q } R (startP ["plan", "cell"] as) := by
  rintro _ Q R ⟨p, d, rfl, hp⟩
  unfold rdx_check_cell
  walk_at "pd"
  walk_at "pq"
  refine ⟨d, 0, p.cells - 1, rfl, ?_⟩
  rcases hp with ⟨h, q⟩ | ⟨h, q⟩
  · rw [h]
    walk_at "pt"
    exact q
  · rw [h]
    walk_at "pt"
    exact q
def FX_check_tick (xa : XA) : PFX := fun as P R => ∃ (d : Dt) (m : Int), as = [.d d, .d (.int m)] ∧ (m = 200 ∨ m = 1000) ∧ ((isWhole d 0 m = false ∧ R ⟨xa.BadTick, none⟩) ∨ (isWhole d 0 m = true ∧ P .none))
theorem lenx_check_tick (xa : XA) : ∀ as P R, FX_check_tick xa as P R → as.length = 2 := by rintro _ P R ⟨_, _, rfl, _⟩; rfl
def rdx_check_tick (xa : XA) : PTX :=
  (xIf (dNot (dTru (dCall F_is_whole (vCons (vE (dVar 0)) (vCons (vE (dC (.int 0))) (vCons (vE (dVar 1)) vNil)))))) (xRaiseF xa.BadTick "not a tick from 0 to " (dVar 1)) xNext)

theorem holdsx_check_tick (xa : XA) : ∀ as Q R, FX_check_tick xa as Q R → rdx_check_tick xa { nx := fun _ => Q .none, rt := Q } R (startP ["tick", "most"] as) := by
  rintro _ Q R ⟨d, m, rfl, hm, hp⟩
  unfold rdx_check_tick
  walk_at "pd"
  refine ⟨d, 0, m, rfl, ?_⟩
  rcases hp with ⟨h, q⟩ | ⟨h, q⟩
  · rw [h]
    walk_at "pt"
    refine ⟨by decide +kernel, ?_, ?_, q⟩
    · rcases hm with rfl | rfl <;> decide +kernel
    · rcases hm with rfl | rfl <;> decide +kernel
  · rw [h]
    walk_at "pt"
    exact q
/-- a plan or none -/
def Planned (d : Dt) (p : Plan) : Prop := d = p.d ∧ isPlan p.d = true
def FX_ticks (xa : XA) : PFX := fun as _ R => ∃ d e : Dt, as = [.d d, .d e] ∧ smD d = true ∧ ((isPlan d = false ∧ R ⟨xa.BadPlan, none⟩) ∨ ∃ p, Planned d p ∧ areRests e p.bounds = false ∧ R ⟨xa.BadPace, none⟩)
theorem lenx_ticks (xa : XA) : ∀ as P R, FX_ticks xa as P R → as.length = 2 := by rintro _ P R ⟨_, _, rfl, _⟩; rfl
def rdx_ticks (xa : XA) : PTX :=
  (xSeq (xDrop (xCall (FX_check_plan xa) (vCons (vE (dVar 0)) vNil)))
  (xSeq (xDrop (xCall (FX_check_pace xa) (vCons (vE (dVar 0)) (vCons (vE (dVar 1)) vNil))))
  (xOf sNever)))

theorem holdsx_ticks (xa : XA) : ∀ as Q R, FX_ticks xa as Q R → rdx_ticks xa { nx := fun _ => Q .none, rt := Q } R (startP ["plan", "pace"] as) := by
  rintro _ Q R ⟨d, e, rfl, hs, hp⟩
  unfold rdx_ticks
  walk_at "pd"
  refine ⟨d, rfl, hs, ?_⟩
  rcases hp with ⟨h, q⟩ | ⟨p, ⟨rfl, h⟩, h2, q⟩
  · exact .inl ⟨h, q⟩
  · exact .inr ⟨h, p, e, rfl, .inl ⟨h2, q⟩⟩
def FX_seen (xa : XA) : PFX := fun as P R => ∃ d e f g : Dt, as = [.d d, .d e, .d f, .d g] ∧ smD d = true ∧ ((isPlan d = false ∧ R ⟨xa.BadPlan, none⟩) ∨ ∃ p, Planned d p ∧ ((areRests e p.bounds = false ∧ R ⟨xa.BadPace, none⟩) ∨ (areRests e p.bounds = true ∧
  ((isWhole f 0 (p.cells - 1) = false ∧ R ⟨xa.NoCell, none⟩) ∨ (isWhole f 0 (p.cells - 1) = true ∧ ((isWhole g 0 1000 = false ∧ R ⟨xa.BadTick, none⟩) ∨ (isWhole g 0 1000 = true ∧ p.inks ∧ ∃ (rs : List Int) (c t : Int), e = .tuple (rs.map .int) ∧ rs.length ≤ 1000 ∧ f = .int c ∧ g = .int t ∧ P (.str (seenAt p (sums 0 rs) c t)))))))))
theorem lenx_seen (xa : XA) : ∀ as P R, FX_seen xa as P R → as.length = 4 := by rintro _ P R ⟨_, _, _, _, rfl, _⟩; rfl
def rdx_seen (xa : XA) : PTX :=
  (xSeq (xDrop (xCall (FX_check_plan xa) (vCons (vE (dVar 0)) vNil)))
  (xSeq (xDrop (xCall (FX_check_pace xa) (vCons (vE (dVar 0)) (vCons (vE (dVar 1)) vNil))))
  (xSeq (xDrop (xCall (FX_check_cell xa) (vCons (vE (dVar 0)) (vCons (vE (dVar 2)) vNil))))
  (xSeq (xDrop (xCall (FX_check_tick xa) (vCons (vE (dVar 3)) (vCons (vE (dC (.int 1000))) vNil))))
  (xOf (sRet (dCall F_sign_at (vCons (vE (dVar 0)) (vCons (vE (dCall F_summed (vCons (vE (dC (.int 0))) (vCons (vE (dVar 1)) vNil)))) (vCons (vE (dVar 2)) (vCons (vE (dVar 3)) vNil)))))))))))

theorem holdsx_seen (xa : XA) : ∀ as Q R, FX_seen xa as Q R → rdx_seen xa { nx := fun _ => Q .none, rt := Q } R (startP ["plan", "pace", "cell", "tick"] as) := by
  rintro _ Q R ⟨d, e, f, g, rfl, hs, hp⟩
  unfold rdx_seen
  walk_at "pd"
  refine ⟨d, rfl, hs, ?_⟩
  rcases hp with ⟨h, q⟩ | ⟨p, ⟨rfl, h⟩, hp⟩
  · exact .inl ⟨h, q⟩
  refine .inr ⟨h, p, e, rfl, ?_⟩
  rcases hp with ⟨h, q⟩ | ⟨h, hp⟩
  · exact .inl ⟨h, q⟩
  refine .inr ⟨h, p, f, rfl, ?_⟩
  rcases hp with ⟨h, q⟩ | ⟨h, hp⟩
  · exact .inl ⟨h, q⟩
  refine .inr ⟨h, g, _, rfl, Or.inr rfl, ?_⟩
  rcases hp with ⟨h, q⟩ | ⟨h, hi, rs, c, t, rfl, hl, rfl, rfl, q⟩
  · exact .inl ⟨h, q⟩
  refine .inr ⟨h, 0, rs, _, rfl, .inl rfl, hl, ?_⟩
  walk_at "pd"
  exact ⟨p, sums 0 rs, c, t, rfl, hi, q⟩
def FX_board (xa : XA) : PFX := fun as _ R => ∃ d e g : Dt, as = [.d d, .d e, .d g] ∧ smD d = true ∧ ((isPlan d = false ∧ R ⟨xa.BadPlan, none⟩) ∨ ∃ p, Planned d p ∧ ((areRests e p.bounds = false ∧ R ⟨xa.BadPace, none⟩) ∨ (areRests e p.bounds = true ∧ isWhole g 0 1000 = false ∧ R ⟨xa.BadTick, none⟩)))
theorem lenx_board (xa : XA) : ∀ as P R, FX_board xa as P R → as.length = 3 := by rintro _ P R ⟨_, _, _, rfl, _⟩; rfl
def rdx_board (xa : XA) : PTX :=
  (xSeq (xDrop (xCall (FX_check_plan xa) (vCons (vE (dVar 0)) vNil)))
  (xSeq (xDrop (xCall (FX_check_pace xa) (vCons (vE (dVar 0)) (vCons (vE (dVar 1)) vNil))))
  (xSeq (xDrop (xCall (FX_check_tick xa) (vCons (vE (dVar 2)) (vCons (vE (dC (.int 1000))) vNil))))
  (xOf sNever))))

theorem holdsx_board (xa : XA) : ∀ as Q R, FX_board xa as Q R → rdx_board xa { nx := fun _ => Q .none, rt := Q } R (startP ["plan", "pace", "tick", "times", "cell"] as) := by
  rintro _ Q R ⟨d, e, g, rfl, hs, hp⟩
  unfold rdx_board
  walk_at "pd"
  refine ⟨d, rfl, hs, ?_⟩
  rcases hp with ⟨h, q⟩ | ⟨p, ⟨rfl, h⟩, hp⟩
  · exact .inl ⟨h, q⟩
  refine .inr ⟨h, p, e, rfl, ?_⟩
  rcases hp with ⟨h, q⟩ | ⟨h, h2, q⟩
  · exact .inl ⟨h, q⟩
  exact .inr ⟨h, g, _, rfl, Or.inr rfl, .inl ⟨h2, q⟩⟩
def FX_story (xa : XA) : PFX := fun as _ R => ∃ d e f g : Dt, as = [.d d, .d e, .d f, .d g] ∧ smD d = true ∧ ((isPlan d = false ∧ R ⟨xa.BadPlan, none⟩) ∨ ∃ p, Planned d p ∧ ((areRests e p.bounds = false ∧ R ⟨xa.BadPace, none⟩) ∨ (areRests e p.bounds = true ∧
  ((isWhole f 0 (p.cells - 1) = false ∧ R ⟨xa.NoCell, none⟩) ∨ (isWhole f 0 (p.cells - 1) = true ∧ isWhole g 0 200 = false ∧ R ⟨xa.BadTick, none⟩)))))
theorem lenx_story (xa : XA) : ∀ as P R, FX_story xa as P R → as.length = 4 := by rintro _ P R ⟨_, _, _, _, rfl, _⟩; rfl
def rdx_story (xa : XA) : PTX :=
  (xSeq (xDrop (xCall (FX_check_plan xa) (vCons (vE (dVar 0)) vNil)))
  (xSeq (xDrop (xCall (FX_check_pace xa) (vCons (vE (dVar 0)) (vCons (vE (dVar 1)) vNil))))
  (xSeq (xDrop (xCall (FX_check_cell xa) (vCons (vE (dVar 0)) (vCons (vE (dVar 2)) vNil))))
  (xSeq (xDrop (xCall (FX_check_tick xa) (vCons (vE (dVar 3)) (vCons (vE (dC (.int 200))) vNil))))
  (xOf sNever)))))

theorem holdsx_story (xa : XA) : ∀ as Q R, FX_story xa as Q R → rdx_story xa { nx := fun _ => Q .none, rt := Q } R (startP ["plan", "pace", "cell", "last", "times", "tick"] as) := by
  rintro _ Q R ⟨d, e, f, g, rfl, hs, hp⟩
  unfold rdx_story
  walk_at "pd"
  refine ⟨d, rfl, hs, ?_⟩
  rcases hp with ⟨h, q⟩ | ⟨p, ⟨rfl, h⟩, hp⟩
  · exact .inl ⟨h, q⟩
  refine .inr ⟨h, p, e, rfl, ?_⟩
  rcases hp with ⟨h, q⟩ | ⟨h, hp⟩
  · exact .inl ⟨h, q⟩
  refine .inr ⟨h, p, f, rfl, ?_⟩
  rcases hp with ⟨h, q⟩ | ⟨h, h2, q⟩
  · exact .inl ⟨h, q⟩
  exact .inr ⟨h, g, _, rfl, Or.inl rfl, .inl ⟨h2, q⟩⟩
def FX_can_see (xa : XA) : PFX := fun as _ R => ∃ d f g : Dt, as = [.d d, .d f, .d g] ∧ smD d = true ∧ ((isPlan d = false ∧ R ⟨xa.BadPlan, none⟩) ∨ ∃ p, Planned d p ∧ ((isWhole f 0 (p.cells - 1) = false ∧ R ⟨xa.NoCell, none⟩) ∨ (isWhole f 0 (p.cells - 1) = true ∧ isWhole g 0 1000 = false ∧ R ⟨xa.BadTick, none⟩)))
theorem lenx_can_see (xa : XA) : ∀ as P R, FX_can_see xa as P R → as.length = 3 := by rintro _ P R ⟨_, _, _, rfl, _⟩; rfl
def rdx_can_see (xa : XA) : PTX :=
  (xSeq (xDrop (xCall (FX_check_plan xa) (vCons (vE (dVar 0)) vNil)))
  (xSeq (xDrop (xCall (FX_check_cell xa) (vCons (vE (dVar 0)) (vCons (vE (dVar 1)) vNil))))
  (xSeq (xDrop (xCall (FX_check_tick xa) (vCons (vE (dVar 2)) (vCons (vE (dC (.int 1000))) vNil))))
  (xOf sNever))))

theorem holdsx_can_see (xa : XA) : ∀ as Q R, FX_can_see xa as Q R → rdx_can_see xa { nx := fun _ => Q .none, rt := Q } R (startP ["plan", "cell", "tick"] as) := by
  rintro _ Q R ⟨d, f, g, rfl, hs, hp⟩
  unfold rdx_can_see
  walk_at "pd"
  refine ⟨d, rfl, hs, ?_⟩
  rcases hp with ⟨h, q⟩ | ⟨p, ⟨rfl, h⟩, hp⟩
  · exact .inl ⟨h, q⟩
  refine .inr ⟨h, p, f, rfl, ?_⟩
  rcases hp with ⟨h, q⟩ | ⟨h, h2, q⟩
  · exact .inl ⟨h, q⟩
  exact .inr ⟨h, g, _, rfl, Or.inr rfl, .inl ⟨h2, q⟩⟩
def FX_sure (xa : XA) : PFX := fun as _ R => ∃ d f z g : Dt, as = [.d d, .d f, .d z, .d g] ∧ smD d = true ∧ ((isPlan d = false ∧ R ⟨xa.BadPlan, none⟩) ∨ ∃ p, Planned d p ∧ ((isWhole f 0 (p.cells - 1) = false ∧ R ⟨xa.NoCell, none⟩) ∨ (isWhole f 0 (p.cells - 1) = true ∧ smD z = true ∧ ((∃ y, z = .str y) ∨ z = .none ∨ (∃ i, z = .int i) ∨ ∃ b, z = .bool b) ∧
  ((isSignD z = false ∧ R ⟨xa.NoSign, none⟩) ∨ (isSignD z = true ∧ isWhole g 0 200 = false ∧ R ⟨xa.BadTick, none⟩)))))
theorem lenx_sure (xa : XA) : ∀ as P R, FX_sure xa as P R → as.length = 4 := by rintro _ P R ⟨_, _, _, _, rfl, _⟩; rfl
def rdx_sure (xa : XA) : PTX :=
  (xSeq (xDrop (xCall (FX_check_plan xa) (vCons (vE (dVar 0)) vNil)))
  (xSeq (xDrop (xCall (FX_check_cell xa) (vCons (vE (dVar 0)) (vCons (vE (dVar 1)) vNil))))
  (xSeq (xIf (dNot (dTru (dCall F_is_sign (vCons (vE (dVar 2)) vNil)))) (xRaise xa.NoSign) xNext)
  (xSeq (xDrop (xCall (FX_check_tick xa) (vCons (vE (dVar 3)) (vCons (vE (dC (.int 200))) vNil))))
  (xOf sNever)))))

theorem holdsx_sure (xa : XA) : ∀ as Q R, FX_sure xa as Q R → rdx_sure xa { nx := fun _ => Q .none, rt := Q } R (startP ["plan", "cell", "sign", "last", "tick"] as) := by
  rintro _ Q R ⟨d, f, z, g, rfl, hs, hp⟩
  unfold rdx_sure
  walk_at "pd"
  refine ⟨d, rfl, hs, ?_⟩
  rcases hp with ⟨h, q⟩ | ⟨p, ⟨rfl, h⟩, hp⟩
  · exact .inl ⟨h, q⟩
  refine .inr ⟨h, p, f, rfl, ?_⟩
  rcases hp with ⟨h, q⟩ | ⟨h, hz, hk, hp⟩
  · exact .inl ⟨h, q⟩
  refine .inr ⟨h, z, rfl, hz, hk, ?_⟩
  rcases hp with ⟨h, q⟩ | ⟨h, h2, q⟩
  · rw [h]
    walk_at "pt"
    exact q
  · rw [h]
    walk_at "pt"
    exact ⟨g, _, rfl, Or.inl rfl, .inl ⟨h2, q⟩⟩
def FX_check_rounds (xa : XA) : PFX := fun as _ R => ∃ d : Dt, as = [.d d] ∧ smD d = true ∧ isPlan d = false ∧ R ⟨xa.BadPlan, none⟩
theorem lenx_check_rounds (xa : XA) : ∀ as P R, FX_check_rounds xa as P R → as.length = 1 := by rintro _ P R ⟨_, rfl, _⟩; rfl
def rdx_check_rounds (xa : XA) : PTX :=
  (xSeq (xDrop (xCall (FX_check_plan xa) (vCons (vE (dVar 0)) vNil)))
  (xOf sNever))

theorem holdsx_check_rounds (xa : XA) : ∀ as Q R, FX_check_rounds xa as Q R → rdx_check_rounds xa { nx := fun _ => Q .none, rt := Q } R (startP ["plan"] as) := by
  rintro _ Q R ⟨d, rfl, hs, h, q⟩
  unfold rdx_check_rounds
  walk_at "pd"
  exact ⟨d, rfl, hs, .inl ⟨h, q⟩⟩
def FX_settled (xa : XA) : PFX := FX_check_rounds xa
theorem lenx_settled (xa : XA) : ∀ as P R, FX_settled xa as P R → as.length = 1 := lenx_check_rounds xa
def rdx_settled (xa : XA) : PTX :=
  (xSeq (xDrop (xCall (FX_check_rounds xa) (vCons (vE (dVar 0)) vNil)))
  (xOf sNever))

theorem holdsx_settled (xa : XA) : ∀ as Q R, FX_settled xa as Q R → rdx_settled xa { nx := fun _ => Q .none, rt := Q } R (startP ["plan"] as) := by
  rintro _ Q R ⟨d, rfl, hs, h, q⟩
  unfold rdx_settled
  walk_at "pd"
  exact ⟨d, rfl, hs, h, q⟩
def FX_needless (xa : XA) : PFX := FX_check_rounds xa
theorem lenx_needless (xa : XA) : ∀ as P R, FX_needless xa as P R → as.length = 1 := lenx_check_rounds xa
def rdx_needless (xa : XA) : PTX :=
  (xSeq (xDrop (xCall (FX_check_plan xa) (vCons (vE (dVar 0)) vNil)))
  (xOf sNever))

theorem holdsx_needless (xa : XA) : ∀ as Q R, FX_needless xa as Q R → rdx_needless xa { nx := fun _ => Q .none, rt := Q } R (startP ["plan", "numbers", "number"] as) := by
  rintro _ Q R ⟨d, rfl, hs, h, q⟩
  unfold rdx_needless
  walk_at "pd"
  exact ⟨d, rfl, hs, .inl ⟨h, q⟩⟩
def FX_least_stay (xa : XA) : PFX := fun as _ R => ∃ d e : Dt, as = [.d d, .d e] ∧ smD d = true ∧ ((isPlan d = false ∧ R ⟨xa.BadPlan, none⟩) ∨ ∃ p, Planned d p ∧ isWhole e 0 ((p.stays.length : Int) - 1) = false ∧ R ⟨xa.NoInk, none⟩)
theorem lenx_least_stay (xa : XA) : ∀ as P R, FX_least_stay xa as P R → as.length = 2 := by rintro _ P R ⟨_, _, rfl, _⟩; rfl
def rdx_least_stay (xa : XA) : PTX :=
  (xSeq (xDrop (xCall (FX_check_plan xa) (vCons (vE (dVar 0)) vNil)))
  (xSeq (xIf (dNot (dTru (dCall F_is_whole (vCons (vE (dVar 1)) (vCons (vE (dC (.int 0))) (vCons (vE (dBin fSub (dApp fLen (dCons (dBin fIx (dVar 0) (dC (.int 1))) dNil)) (dC (.int 1)))) vNil)))))) (xRaise xa.NoInk) xNext)
  (xOf sNever)))

theorem holdsx_least_stay (xa : XA) : ∀ as Q R, FX_least_stay xa as Q R → rdx_least_stay xa { nx := fun _ => Q .none, rt := Q } R (startP ["plan", "ink", "short", "enough", "stay"] as) := by
  rintro _ Q R ⟨d, e, rfl, hs, hp⟩
  unfold rdx_least_stay
  walk_at "pd"
  refine ⟨d, rfl, hs, ?_⟩
  rcases hp with ⟨h, q⟩ | ⟨p, ⟨rfl, h⟩, h2, q⟩
  · exact .inl ⟨h, q⟩
  refine .inr ⟨h, ?_⟩
  walk_at "pq"
  rw [List.length_map]
  refine ⟨e, 0, (p.stays.length : Int) - 1, rfl, ?_⟩
  rw [h2]
  walk_at "pt"
  exact q
/-! ### alike in their bounds -/
theorem lay_bounds : ∀ bs : List (Int × Int), PyData.canLayAll0 (bs.map fun b => PyData.tuple [.int b.1, .int b.2]) = true ∧ PyData.depthAll (bs.map fun b => PyData.tuple [.int b.1, .int b.2]) ≤ 1
  | [] => by simp [PyData.canLayAll0, PyData.depthAll]
  | b :: bs => by
    obtain ⟨h1, h2⟩ := lay_bounds bs
    rw [List.map_cons, PyData.canLayAll0, PyData.depthAll, h1]
    simp only [PyData.canLay0, PyData.depth, PyData.canLayAll0, PyData.depthAll]
    exact ⟨rfl, by omega⟩
theorem eqOk_bds (a b : List (Int × Int)) : eqOk (boundsD a) (boundsD b) = true := by
  obtain ⟨h1, h2⟩ := lay_bounds a
  obtain ⟨h3, h4⟩ := lay_bounds b
  unfold boundsD
  simp only [eqOk, SeqAt.shaped, PyData.canLay0, PyData.depth, h1, h3, Bool.true_and, Bool.and_eq_true, decide_eq_true_eq]
  exact ⟨decide_eq_true (by omega), decide_eq_true (by omega)⟩
theorem eqv_bdsL : ∀ a b : List (Int × Int), PyData.eqvAll (a.map fun b => PyData.tuple [.int b.1, .int b.2]) (b.map fun b => PyData.tuple [.int b.1, .int b.2]) = decide (a = b)
  | [], [] => by simp [PyData.eqvAll]
  | [], _ :: _ => by simp [PyData.eqvAll]
  | _ :: _, [] => by simp [PyData.eqvAll]
  | x :: a, y :: b => by
    rw [List.map_cons, List.map_cons, PyData.eqvAll, eqv_bdsL a b]
    obtain ⟨x1, x2⟩ := x
    obtain ⟨y1, y2⟩ := y
    rw [Bool.eq_iff_iff]
    simp [PyData.eqv, PyData.eqvAll, and_assoc]
theorem eqv_bds (a b : List (Int × Int)) : PyData.eqv (boundsD a) (boundsD b) = decide (a = b) := by
  unfold boundsD
  rw [PyData.eqv]
  exact eqv_bdsL a b
def FX_check_like (xa : XA) : PFX := fun as _ R => ∃ d e : Dt, as = [.d d, .d e] ∧ smD d = true ∧ ((isPlan d = false ∧ R ⟨xa.BadPlan, none⟩) ∨ ∃ p, Planned d p ∧ smD e = true ∧ ((isPlan e = false ∧ R ⟨xa.BadPlan, none⟩) ∨
  ∃ q, Planned e q ∧ (p.cells ≠ q.cells ∨ p.bounds ≠ q.bounds) ∧ R ⟨xa.Unlike, none⟩))
theorem lenx_check_like (xa : XA) : ∀ as P R, FX_check_like xa as P R → as.length = 2 := by rintro _ P R ⟨_, _, rfl, _⟩; rfl
def rdx_check_like (xa : XA) : PTX :=
  (xSeq (xDrop (xCall (FX_check_plan xa) (vCons (vE (dVar 0)) vNil)))
  (xSeq (xDrop (xCall (FX_check_plan xa) (vCons (vE (dVar 1)) vNil)))
  (xIf (dOr (dTest (dBin fNe (dBin fIx (dVar 0) (dC (.int 0))) (dBin fIx (dVar 1) (dC (.int 0))))) (dTest (dBin fNe (dCall F_rest_bounds (vCons (vE (dVar 0)) vNil)) (dCall F_rest_bounds (vCons (vE (dVar 1)) vNil))))) (xRaise xa.Unlike) xNext)))

theorem holdsx_check_like (xa : XA) : ∀ as Q R, FX_check_like xa as Q R → rdx_check_like xa { nx := fun _ => Q .none, rt := Q } R (startP ["plan", "other"] as) := by
  rintro _ Q R ⟨d, e, rfl, hs, hp⟩
  unfold rdx_check_like
  walk_at "pd"
  refine ⟨d, rfl, hs, ?_⟩
  rcases hp with ⟨h, q⟩ | ⟨p, ⟨rfl, h⟩, hs2, hp⟩
  · exact .inl ⟨h, q⟩
  refine .inr ⟨h, e, rfl, hs2, ?_⟩
  rcases hp with ⟨h, r⟩ | ⟨q, ⟨rfl, h2⟩, hd, r⟩
  · exact .inl ⟨h, r⟩
  refine .inr ⟨h2, ?_⟩
  walk_at "pq"
  by_cases z : p.cells = q.cells
  · rw [decide_eq_true z]
    have zb : p.bounds ≠ q.bounds := hd.resolve_left (fun y => y z)
    walk_at "pt"
    refine ⟨p, rfl, q, rfl, ?_⟩
    show _ ∧ _
    rw [eqOk_bds, eqv_bds, decide_eq_false zb]
    walk_at "pt"
    exact r
  · rw [decide_eq_false z]
    walk_at "pt"
    exact r
def FX_are_alike (xa : XA) : PFX := FX_check_like xa
theorem lenx_are_alike (xa : XA) : ∀ as P R, FX_are_alike xa as P R → as.length = 2 := lenx_check_like xa
def rdx_are_alike (xa : XA) : PTX :=
  (xSeq (xDrop (xCall (FX_check_like xa) (vCons (vE (dVar 0)) (vCons (vE (dVar 1)) vNil))))
  (xOf sNever))

theorem holdsx_are_alike (xa : XA) : ∀ as Q R, FX_are_alike xa as Q R → rdx_are_alike xa { nx := fun _ => Q .none, rt := Q } R (startP ["plan", "other"] as) := by
  rintro _ Q R ⟨d, e, rfl, hs, hp⟩
  unfold rdx_are_alike
  walk_at "pd"
  exact ⟨d, e, rfl, hs, hp⟩
def FX_parting (xa : XA) : PFX := FX_check_like xa
theorem lenx_parting (xa : XA) : ∀ as P R, FX_parting xa as P R → as.length = 2 := lenx_check_like xa
def rdx_parting (xa : XA) : PTX :=
  (xSeq (xDrop (xCall (FX_check_like xa) (vCons (vE (dVar 0)) (vCons (vE (dVar 1)) vNil))))
  (xOf sNever))

theorem holdsx_parting (xa : XA) : ∀ as Q R, FX_parting xa as Q R → rdx_parting xa { nx := fun _ => Q .none, rt := Q } R (startP ["plan", "other"] as) := by
  rintro _ Q R ⟨d, e, rfl, hs, hp⟩
  unfold rdx_parting
  walk_at "pd"
  exact ⟨d, e, rfl, hs, hp⟩
/-! ### the law -/
structure Fair (p : Plan) : Prop where
  cells : 1 ≤ p.cells ∧ p.cells ≤ 4
  stays : 1 ≤ p.stays.length ∧ p.stays.length ≤ 4
  stay : ∀ s ∈ p.stays, 1 ≤ s ∧ s ≤ 50
  many : p.writes.length ≤ 8
  cell : ∀ x ∈ p.writes, 0 ≤ x.cell ∧ x.cell < p.cells
  sign : ∀ x ∈ p.writes, isLetter (.str x.sign) = true ∧ x.sign.length = 1
  ink : ∀ x ∈ p.writes, 0 ≤ x.ink ∧ x.ink < (p.stays.length : Int)
  low : ∀ x ∈ p.writes, 0 ≤ x.low ∧ x.low ≤ x.high ∧ x.high ≤ 50
theorem Fair.ok {p : Plan} (h : Fair p) : p.ok := by
  have h1 := h.cells
  have h2 := h.stays
  have h3 := h.many
  refine ⟨?_, ?_, h.ink, by omega, by omega, fun x hx => (h.sign x hx).2⟩
  · simp only [Plan.d, isPlan, elems, intOf, Bool.and_eq_true, List.all_eq_true]
    refine ⟨⟨⟨⟨whole_in h1.1 (by omega), ?_⟩, ?_⟩, fun x hx => ?_⟩, fun x hx => ?_⟩
    · simp only [isRow, List.length_map, Bool.and_eq_true, decide_eq_true_eq]
      omega
    · simp only [isRow, List.length_map, Bool.and_eq_true, decide_eq_true_eq]
      omega
    · obtain ⟨s, hs, rfl⟩ := List.mem_map.mp hx
      have := h.stay s hs
      exact whole_in this.1 (by omega)
    · obtain ⟨y, hy, rfl⟩ := List.mem_map.mp hx
      have a := h.cell y hy
      have b := h.ink y hy
      have c := h.low y hy
      simp only [Wr.d, isWrite, isSpan, Bool.and_eq_true, decide_eq_true_eq, List.length_map]
      exact ⟨⟨⟨whole_in a.1 (by omega), (h.sign y hy).1⟩, whole_in b.1 (by omega)⟩, ⟨by omega, by omega⟩, whole_in c.2.1 (by omega)⟩
  · simp only [Plan.d, smD, smDs, Bool.and_eq_true, smDs_ints, true_and, and_true]
    refine smDs_all fun x hx => ?_
    simp [Wr.d, smD, smDs, (h.sign x hx).2]
theorem Drawn.fair {m w : Int} {p : Plan} (h : Drawn m w p) (hm : m ≤ 8) (hw : w ≤ 40) : Fair p := by
  have h1 := h.cells
  have h2 := h.stays
  have h3 := h.many
  exact ⟨by omega, by omega, fun s hs => by have := h.stay s hs; omega, by omega, h.cell, fun x hx => h.letter hx, h.ink, fun x hx => by have := h.low x hx; have := h.high x hx; omega⟩
def PE0 (Q : Dt → Prop) : PEnds := { nx := fun _ => Q .none, rt := Q }
def lows (p : Plan) : List Int := p.writes.map Wr.low
def paceD (p : Plan) : Dt := .tuple ((lows p).map .int)
theorem rests_low : ∀ ws : List Wr, (∀ w ∈ ws, w.low ≤ w.high) → restsOk ((ws.map Wr.low).map .int) (ws.map fun w => (w.low, w.high)) = true
  | [], _ => rfl
  | w :: ws, h => by
    rw [List.map_cons, List.map_cons, List.map_cons, restsOk, rests_low ws fun x hx => h x (List.mem_cons_of_mem _ hx), whole_in (Int.le_refl _) (h w (List.mem_cons_self ..))]
    rfl
theorem Fair.pace {p : Plan} (h : Fair p) : areRests (paceD p) p.bounds = true := by
  unfold paceD lows Plan.bounds
  show (decide (_ = _) && restsOk _ _) = true
  rw [rests_low _ fun w hw => (h.low w hw).2.1]
  simp
def lawT22 (xa : XA) (K : Fg) (Pt : Addr) (cr : CRP) : PTS :=
  (sRet (dOrV (dBin fEq (dVar 5) (dTup dNil)) (dBin fEq (dErr K (clauses xa) 13 Pt (xCall (FX_are_alike xa) (vCons (vE (dVar 2)) (vCons (vE (dTup (dCons (dVar 3) (dCons (dVar 4) (dCons (dBin fAdd (dTup (dCons (dBin fAdd (dSl (dBin fIx (dVar 5) (dC (.int 0))) dNoPart (dPart (dC (.int 4)))) (dTup (dCons (dBin fAdd (dBin fIx (dBin fIx (dVar 5) (dC (.int 0))) (dC (.int 4))) (dC (.int 1))) dNil))) dNil)) (dSl (dVar 5) (dPart (dC (.int 1))) dNoPart)) dNil))))) vNil)))) (dC (.str "Unlike")))))
def lawT21 (xa : XA) (K : Fg) (Pt : Addr) (cr : CRP) : PTS :=
  (sSeq (sIf (dTest (dBin fNe (dErr K (clauses xa) 13 Pt (xCall (FX_are_alike xa) (vCons (vE (dVar 2)) (vCons (vE (dTup (dCons (dC (.int 3)) (dCons (dVar 4) (dCons (dVar 5) dNil))))) vNil)))) (dC (.str "Unlike")))) (sRet (dC (.bool false))) sNext)
  (lawT22 xa K Pt cr))
def lawT20 (xa : XA) (K : Fg) (Pt : Addr) (cr : CRP) : PTS :=
  (sSeq (sIf (dTest (dBin fNe (dLst (dCons (dErr K (clauses xa) 13 Pt (xCall (FX_are_alike xa) (vCons (vE (dVar 2)) (vCons (vE (dVar 10)) vNil)))) (dCons (dErr K (clauses xa) 13 Pt (xCall (FX_parting xa) (vCons (vE (dVar 10)) (vCons (vE (dVar 2)) vNil)))) dNil))) (dBin fMul (dLst (dCons (dC (.str "Unlike")) dNil)) (dC (.int 2))))) (sRet (dC (.bool false))) sNext)
  (lawT21 xa K Pt cr))
def lawT19 (xa : XA) (K : Fg) (Pt : Addr) (cr : CRP) : PTS :=
  (sSeq (sAsg (dIf (dTest (dBin fLt (dApp fLen (dCons (dVar 5) dNil)) (dC (.int 8)))) (dTup (dCons (dVar 3) (dCons (dVar 4) (dCons (dBin fAdd (dVar 5) (dTup (dCons (dTup (dCons (dC (.int 0)) (dCons (dC (.str "a")) (dCons (dC (.int 0)) (dCons (dC (.int 0)) (dCons (dC (.int 0)) dNil)))))) dNil))) dNil)))) (dTup (dCons (dVar 3) (dCons (dVar 4) (dCons (dSl (dVar 5) (dPart (dC (.int 1))) dNoPart) dNil))))) (aName 10))
  (lawT20 xa K Pt cr))
def lawT18 (xa : XA) (K : Fg) (Pt : Addr) (cr : CRP) : PTS :=
  (sSeq (sIf (dTest (dBin fNe (dComp (dIter (dLst (dCons (dC .none) (dCons (dBin fSub (dC (.int 0)) (dC (.int 1))) (dCons (dApp fLen (dCons (dVar 4) dNil)) (dCons (dC (.bool true)) dNil)))))) (aName 8) dYes (dErr K (clauses xa) 13 Pt (xCall (FX_least_stay xa) (vCons (vE (dVar 2)) (vCons (vE (dVar 8)) vNil)))) [8]) (dBin fMul (dLst (dCons (dC (.str "NoInk")) dNil)) (dC (.int 4))))) (sRet (dC (.bool false))) sNext)
  (lawT19 xa K Pt cr))
def lawT17 (xa : XA) (K : Fg) (Pt : Addr) (cr : CRP) : PTS :=
  (sSeq (sIf (dTest (dBin fNe (dComp (dIter (dLst (dCons (dC .none) (dCons (dC (.str "")) (dCons (dC (.str "A")) (dCons (dC (.str "ab")) (dCons (dC (.int 3)) (dCons (dC (.str "!")) dNil)))))))) (aName 8) dYes (dErr K (clauses xa) 13 Pt (xCall (FX_sure xa) (vCons (vE (dVar 2)) (vCons (vE (dC (.int 0))) (vCons (vE (dVar 8)) (vCons (vE (dC .none)) vNil)))))) [8]) (dBin fMul (dLst (dCons (dC (.str "NoSign")) dNil)) (dC (.int 6))))) (sRet (dC (.bool false))) sNext)
  (lawT18 xa K Pt cr))
def lawT16 (xa : XA) (K : Fg) (Pt : Addr) (cr : CRP) : PTS :=
  (sSeq (sIf (dTest (dBin fNe (dErr K (clauses xa) 13 Pt (xCall (FX_seen xa) (vCons (vE (dVar 2)) (vCons (vE (dVar 6)) (vCons (vE (dC (.int 0))) (vCons (vE (dC (.int 1000))) vNil)))))) (dC (.str "")))) (sRet (dC (.bool false))) sNext)
  (lawT17 xa K Pt cr))
def lawT15 (xa : XA) (K : Fg) (Pt : Addr) (cr : CRP) : PTS :=
  (sSeq (sIf (dTest (dBin fNe (dLst (dCons (dErr K (clauses xa) 13 Pt (xCall (FX_story xa) (vCons (vE (dVar 2)) (vCons (vE (dVar 6)) (vCons (vE (dC (.int 0))) (vCons (vE (dC (.int 201))) vNil)))))) (dCons (dErr K (clauses xa) 13 Pt (xCall (FX_sure xa) (vCons (vE (dVar 2)) (vCons (vE (dC (.int 0))) (vCons (vE (dC (.str "."))) (vCons (vE (dC (.int 201))) vNil)))))) dNil))) (dBin fMul (dLst (dCons (dC (.str "BadTick")) dNil)) (dC (.int 2))))) (sRet (dC (.bool false))) sNext)
  (lawT16 xa K Pt cr))
def lawT14 (xa : XA) (K : Fg) (Pt : Addr) (cr : CRP) : PTS :=
  (sSeq (sFor (dIter (dLst (dCons (dC .none) (dCons (dBin fSub (dC (.int 0)) (dC (.int 1))) (dCons (dC (.int 1001)) (dCons (dC (.bool true)) (dCons (dC (.str "0")) dNil))))))) (aName 8) (sSeq (sClos 9 cr (cLst 13 Pt [(xCall (FX_seen xa) (vCons (vE (dVar 2)) (vCons (vE (dVar 6)) (vCons (vE (dC (.int 0))) (vCons (vE (dVar 8)) vNil))))), (xCall (FX_board xa) (vCons (vE (dVar 2)) (vCons (vE (dVar 6)) (vCons (vE (dVar 8)) vNil)))), (xCall (FX_can_see xa) (vCons (vE (dVar 2)) (vCons (vE (dC (.int 0))) (vCons (vE (dVar 8)) vNil)))), (xCall (FX_story xa) (vCons (vE (dVar 2)) (vCons (vE (dVar 6)) (vCons (vE (dC (.int 0))) (vCons (vE (dVar 8)) vNil)))))]))
  (sIf (dTest (dBin fNe (dNo K (clauses xa) "BadTick" (cAdd (cVar cr 9) (cLst 13 Pt [(xCall (FX_sure xa) (vCons (vE (dVar 2)) (vCons (vE (dC (.int 0))) (vCons (vE (dC (.str "a"))) (vCons (vE (dVar 8)) vNil)))))]))) (dLst dNil))) (sRet (dC (.bool false))) sNext)))
  (lawT15 xa K Pt cr))
def lawT13 (xa : XA) (K : Fg) (Pt : Addr) (cr : CRP) : PTS :=
  (sSeq (sFor (dIter (dLst (dCons (dC .none) (dCons (dBin fSub (dC (.int 0)) (dC (.int 1))) (dCons (dVar 3) (dCons (dC (.bool true)) (dCons (dC (.str "0")) dNil))))))) (aName 8) (sSeq (sClos 9 cr (cLst 13 Pt [(xCall (FX_seen xa) (vCons (vE (dVar 2)) (vCons (vE (dVar 6)) (vCons (vE (dVar 8)) (vCons (vE (dC .none)) vNil))))), (xCall (FX_story xa) (vCons (vE (dVar 2)) (vCons (vE (dVar 6)) (vCons (vE (dVar 8)) (vCons (vE (dC .none)) vNil))))), (xCall (FX_can_see xa) (vCons (vE (dVar 2)) (vCons (vE (dVar 8)) (vCons (vE (dC .none)) vNil))))]))
  (sIf (dTest (dBin fNe (dNo K (clauses xa) "NoCell" (cAdd (cVar cr 9) (cLst 13 Pt [(xCall (FX_sure xa) (vCons (vE (dVar 2)) (vCons (vE (dVar 8)) (vCons (vE (dC .none)) (vCons (vE (dC .none)) vNil)))))]))) (dLst dNil))) (sRet (dC (.bool false))) sNext)))
  (lawT14 xa K Pt cr))
def lawT12 (xa : XA) (K : Fg) (Pt : Addr) (cr : CRP) : PTS :=
  (sSeq (sFor (dIter (dVar 7)) (aName 8) (sSeq (sClos 9 cr (cLst 13 Pt [(xCall (FX_ticks xa) (vCons (vE (dVar 2)) (vCons (vE (dVar 8)) vNil))), (xCall (FX_seen xa) (vCons (vE (dVar 2)) (vCons (vE (dVar 8)) (vCons (vE (dC .none)) (vCons (vE (dC .none)) vNil))))), (xCall (FX_board xa) (vCons (vE (dVar 2)) (vCons (vE (dVar 8)) (vCons (vE (dC .none)) vNil)))), (xCall (FX_story xa) (vCons (vE (dVar 2)) (vCons (vE (dVar 8)) (vCons (vE (dC .none)) (vCons (vE (dC .none)) vNil)))))]))
  (sIf (dTest (dBin fNe (dNo K (clauses xa) "BadPace" (cVar cr 9)) (dLst dNil))) (sRet (dC (.bool false))) sNext)))
  (lawT13 xa K Pt cr))
def lawT11 (xa : XA) (K : Fg) (Pt : Addr) (cr : CRP) : PTS :=
  (sSeq (sIf (dTest (dBin fNe (dVar 6) (dTup dNil))) (sAsg (dBin fAdd (dVar 7) (dLst (dCons (dSl (dVar 6) (dPart (dC (.int 1))) dNoPart) (dCons (dBin fAdd (dTup (dCons (dC (.bool true)) dNil)) (dSl (dVar 6) (dPart (dC (.int 1))) dNoPart)) (dCons (dBin fAdd (dTup (dCons (dBin fAdd (dBin fIx (dBin fIx (dVar 5) (dC (.int 0))) (dC (.int 4))) (dC (.int 1))) dNil)) (dSl (dVar 6) (dPart (dC (.int 1))) dNoPart)) (dCons (dBin fAdd (dTup (dCons (dBin fSub (dC (.int 0)) (dC (.int 1))) dNil)) (dSl (dVar 6) (dPart (dC (.int 1))) dNoPart)) dNil)))))) (aName 7)) sNext)
  (lawT12 xa K Pt cr))
def lawT10 (xa : XA) (K : Fg) (Pt : Addr) (cr : CRP) : PTS :=
  (sSeq (sAsg (dLst (dCons (dC .none) (dCons (dApp fList (dCons (dVar 6) dNil)) (dCons (dBin fAdd (dVar 6) (dTup (dCons (dC (.int 0)) dNil))) (dCons (dC (.int 3)) (dCons (dBin fMulS0 (dC (.str "0")) (dApp fLen (dCons (dVar 6) dNil))) dNil)))))) (aName 7))
  (lawT11 xa K Pt cr))
def lawT6 (xa : XA) (K : Fg) (Pt : Addr) (cr : CRP) : PTS :=
  (sSeq (sClos 9 cr (cLst 13 Pt [(xCall (FX_ticks xa) (vCons (vE (dVar 8)) (vCons (vE (dC .none)) vNil))), (xCall (FX_seen xa) (vCons (vE (dVar 8)) (vCons (vE (dC .none)) (vCons (vE (dC .none)) (vCons (vE (dC .none)) vNil))))), (xCall (FX_board xa) (vCons (vE (dVar 8)) (vCons (vE (dC .none)) (vCons (vE (dC .none)) vNil)))), (xCall (FX_story xa) (vCons (vE (dVar 8)) (vCons (vE (dC .none)) (vCons (vE (dC .none)) (vCons (vE (dC .none)) vNil)))))]))
  (sSeq (sClos 9 cr (cAdd (cVar cr 9) (cLst 13 Pt [(xCall (FX_can_see xa) (vCons (vE (dVar 8)) (vCons (vE (dC .none)) (vCons (vE (dC .none)) vNil)))), (xCall (FX_sure xa) (vCons (vE (dVar 8)) (vCons (vE (dC .none)) (vCons (vE (dC .none)) (vCons (vE (dC .none)) vNil))))), (xCall (FX_settled xa) (vCons (vE (dVar 8)) vNil)), (xCall (FX_needless xa) (vCons (vE (dVar 8)) vNil))])))
  (sSeq (sClos 9 cr (cAdd (cVar cr 9) (cLst 13 Pt [(xCall (FX_are_alike xa) (vCons (vE (dVar 8)) (vCons (vE (dC .none)) vNil))), (xCall (FX_are_alike xa) (vCons (vE (dVar 2)) (vCons (vE (dVar 8)) vNil))), (xCall (FX_parting xa) (vCons (vE (dVar 2)) (vCons (vE (dVar 8)) vNil))), (xCall (FX_least_stay xa) (vCons (vE (dVar 8)) (vCons (vE (dC .none)) vNil)))])))
  (sSeq (sIf (dTest (dBin fNe (dNo K (clauses xa) "BadPlan" (cVar cr 9)) (dLst dNil))) (sRet (dC (.bool false))) sNext)
  (lawT10 xa K Pt cr)))))
def lawT4 (xa : XA) (K : Fg) (Pt : Addr) (cr : CRP) : PTS :=
  (sSeq (sAsg (dLst (dCons (dC .none) (dCons (dTup dNil) (dCons (dApp fList (dCons (dVar 2) dNil)) (dCons (dTup (dCons (dVar 3) (dCons (dVar 4) dNil))) (dCons (dTup (dCons (dC (.int 0)) (dCons (dVar 4) (dCons (dTup dNil) dNil)))) (dCons (dTup (dCons (dVar 3) (dCons (dTup dNil) (dCons (dTup dNil) dNil)))) (dCons (dTup (dCons (dVar 3) (dCons (dVar 4) (dCons (dApp fList (dCons (dVar 5) dNil)) dNil)))) (dCons (dC (.int 3)) dNil))))))))) (aName 7))
  (sSeq (sAsg (dCall F__law_pick (vCons (vRow 1) (vCons (vE (dBin fAdd (dVar 7) (dLst (dCons (dTup (dCons (dVar 3) (dCons (dVar 4) (dCons (dTup (dCons (dTup (dCons (dVar 3) (dCons (dC (.str "a")) (dCons (dC (.int 0)) (dCons (dC (.int 0)) (dCons (dC (.int 0)) dNil)))))) dNil)) dNil)))) dNil)))) vNil))) (aName 8))
  (lawT6 xa K Pt cr)))
def lawT3 (xa : XA) (K : Fg) (Pt : Addr) (cr : CRP) : PTS :=
  (sSeq (sAsg (dApp fTuple (dCons (dComp (dIter (dVar 5)) (aName 11) dYes (dBin fIx (dVar 11) (dC (.int 3))) [11]) dNil)) (aName 6))
  (lawT4 xa K Pt cr))
def rd_law (xa : XA) (K : Fg) (Pt : Addr) (cr : CRP) : PTS :=
  (sSeq (sRow 1 0)
  (sSeq (sAsg (dCall F__law_plan (vCons (vRow 1) (vCons (vE (dC (.int 5))) (vCons (vE (dC (.int 3))) vNil)))) (aName 2))
  (sSeq (sAsg (dVar 2) (aTup 3 (aCons (aName 3) (aCons (aName 4) (aCons (aName 5) aNil)))))
  (lawT3 xa K Pt cr))))

theorem for_all {ti : PTI} {i : Nat} {tb t : PTS} {P : PEnds} {ρ : List PV} (xs : List Dt) (I : List PV → Prop) (C : Dt → Prop) (hti : ∀ R : List Dt → Prop, R xs → ti ρ R) (hC : ∀ x ∈ xs, C x) (hI : I ρ)
    (step : ∀ x, C x → ∀ ρ, I ρ → ∀ P' : PEnds, (∀ ρ', I ρ' → P'.nx ρ') → tb P' (ρ.set i (.d x))) (fin : ∀ ρ, I ρ → t P ρ) : sSeq (sFor ti (aName i) tb) t P ρ := by
  refine hti _ fun _ => ?_
  have go : ∀ (ys : List Dt) (ρ : List PV), (∀ y ∈ ys, C y) → I ρ → forP (aName i) tb { P with nx := t P } ys ρ := by
    intro ys
    induction ys with
    | nil => exact fun ρ _ h => fin ρ h
    | cons y ys ih => exact fun ρ hc h => step y (hc y (List.mem_cons_self ..)) ρ h _ fun ρ' h' => ih ρ' (fun z hz => hc z (List.mem_cons_of_mem _ hz)) h'
  exact go xs ρ hC hI
theorem no_test {K : Fg} {l : List (Addr × Str)} {w : Str} {t : PTC} {P : PEnds} {ρ : List PV} {txs : List PT2} (ht : ∀ R : List PT2 → Prop, R txs → t ρ R) (all : ∀ tx ∈ txs, xTold K l tx ρ fun d => d = .str w) {u : PTS} (q : u P ρ) :
    sIf (dTest (dBin fNe (dNo K l w t) (dLst dNil))) (sRet (dC (.bool false))) u P ρ :=
  ht _ ⟨all, Nat.zero_le _, eqOk_nil, false, by rw [eqv_nil]; rfl, q⟩
theorem set_clos {cr : CRP} {t : PTC} {u : PTS} {P : PEnds} {ρ : List PV} {txs : List PT2} (ht : ∀ R : List PT2 → Prop, R txs → t ρ R) (q : u P (ρ.set 9 (.fz (cr txs)))) : sSeq (sClos 9 cr t) u P ρ := ht _ q
theorem c_lst {Pt : Addr} {txs : List PT2} {ρ : List PV} (h : ρ[13]? = some (.fz (tabG Pt)) := by rfl) (hl : txs.length ≤ 1000 := by simp) (R : List PT2 → Prop) (r : R txs) : cLst 13 Pt txs ρ R := ⟨h, hl, r⟩
theorem c_var {cr : CRP} {txs : List PT2} {ρ : List PV} (h : ρ[9]? = some (.fz (cr txs)) := by rfl) (R : List PT2 → Prop) (r : R txs) : cVar cr 9 ρ R := ⟨txs, h, r⟩
theorem c_add {t u : PTC} {xs ys : List PT2} {ρ : List PV} (h1 : ∀ R : List PT2 → Prop, R xs → t ρ R) (h2 : ∀ R : List PT2 → Prop, R ys → u ρ R) (hl : xs.length + ys.length ≤ 1000 := by simp) (R : List PT2 → Prop) (r : R (xs ++ ys)) : cAdd t u ρ R := h1 _ (h2 _ ⟨hl, r⟩)
theorem seq_if {c : PTT} {a b t : PTS} {P : PEnds} {ρ : List PV} (h : sIf c a b { P with nx := t P } ρ) : sSeq (sIf c a b) t P ρ := h
local macro_rules | `(tactic| walk_at "tl") => `(tactic| simp only [xTold, xCall, vCons, vNil, vE, dVar, dC, List.getElem?_cons_succ, List.getElem?_cons_zero, Option.some.injEq, PV.d.injEq, exists_eq_left', List.set_cons_succ, List.set_cons_zero])
theorem eqs (s : Str) (n : Nat) : PyData.eqv (.list (List.replicate n (.str s))) (.list (List.replicate n (.str s))) = true := by
  rw [PyData.eqv]
  induction n with
  | zero => rfl
  | succ n ih => rw [List.replicate_succ, PyData.eqvAll, ih, eqv_str, decide_eq_true rfl]; rfl
theorem flat_rep (x : Dt) (n : Nat) : (List.replicate n [x]).flatten = List.replicate n x := by
  induction n with
  | zero => rfl
  | succ n ih => rw [List.replicate_succ, List.flatten_cons, ih, List.replicate_succ]; rfl
theorem same_lits {s : Str} {n : Nat} {P : Dt → Prop} {A B : Prop} (hn : (n : Int) ≤ 1000) (ho : eqOk (.list (List.replicate n (.str s))) (.list (List.replicate n (.str s))) = true) (q : B) :
    fMul (.list [.str s]) (.int n) fun y => eqOk (.list (List.replicate n (.str s))) y = true ∧ if (!PyData.eqv (.list (List.replicate n (.str s))) y) = true then A else B := by
  refine ⟨by omega, by omega, ?_, ?_⟩
  · rw [line_eq, show ((n : Nat) : Int).toNat = n by omega]; simp; omega
  · rw [show ((n : Nat) : Int).toNat = n by omega, flat_rep]
    show _ ∧ _
    rw [eqs]
    exact ⟨ho, by simpa using q⟩
theorem cut1 {x : Dt} {xs : List Dt} : cutD (x :: xs) (some 1) none = xs := by
  unfold cutD HT.sIx
  simp
theorem cut45 (a b c d e : Dt) : cutD [a, b, c, d, e] none (some 4) = [a, b, c, d] := by
  unfold cutD HT.sIx
  rfl
theorem lay_wr : ∀ ws : List Wr, (∀ w ∈ ws, PyData.strOk w.sign = true) → PyData.canLayAll0 (ws.map Wr.d) = true ∧ PyData.depthAll (ws.map Wr.d) ≤ 1
  | [], _ => by simp [PyData.canLayAll0, PyData.depthAll]
  | b :: bs, h => by
    obtain ⟨h1, h2⟩ := lay_wr bs fun w hw => h w (List.mem_cons_of_mem _ hw)
    rw [List.map_cons, PyData.canLayAll0, PyData.depthAll, h1]
    simp only [Wr.d, PyData.canLay0, PyData.depth, PyData.canLayAll0, PyData.depthAll, h b (List.mem_cons_self ..)]
    exact ⟨rfl, by omega⟩
theorem eqOk_wr (ws : List Wr) (h : ∀ w ∈ ws, PyData.strOk w.sign = true) : eqOk (.tuple (ws.map Wr.d)) (.tuple []) = true := by
  obtain ⟨h1, h2⟩ := lay_wr ws h
  simp only [eqOk, SeqAt.shaped, PyData.canLay0, PyData.depth, h1, PyData.canLayAll0, PyData.depthAll, Bool.true_and, Bool.and_eq_true, decide_eq_true_eq]
  exact ⟨decide_eq_true (by omega), by decide⟩
theorem lay_int : ∀ l : List Int, PyData.canLayAll0 (l.map .int) = true ∧ PyData.depthAll (l.map .int) = 0
  | [] => by simp [PyData.canLayAll0, PyData.depthAll]
  | b :: bs => by
    obtain ⟨h1, h2⟩ := lay_int bs
    rw [List.map_cons, PyData.canLayAll0, PyData.depthAll, h1, h2]
    simp [PyData.canLay0, PyData.depth]
theorem eqOk_ns (l : List Int) : eqOk (.tuple (l.map .int)) (.tuple []) = true := by
  obtain ⟨h1, h2⟩ := lay_int l
  simp only [eqOk, SeqAt.shaped, PyData.canLay0, PyData.depth, h1, h2, PyData.canLayAll0, PyData.depthAll, Bool.true_and, Bool.and_eq_true]
  decide
theorem rests_len {xs : List Dt} {bs : List (Int × Int)} (h : xs.length ≠ bs.length) : areRests (.tuple xs) bs = false := by
  show (decide (xs.length = bs.length) && _) = false
  rw [decide_eq_false h]; rfl
theorem rests_hd {x : Dt} {xs : List Dt} {b : Int × Int} {bs : List (Int × Int)} (h : isWhole x b.1 b.2 = false) : areRests (.tuple (x :: xs)) (b :: bs) = false := by
  show (_ && (isWhole x b.1 b.2 && _)) = false
  rw [h]; simp
/-- not a pace, whatever the plan -/
def oddA (p : Plan) (w : Str) : List Dt := [.none, .list ((lows p).map .int), .tuple ((lows p).map .int ++ [.int 0]), .int 3, .str w]
def oddB (w : Wr) (ws : List Wr) : List Dt := [.tuple ((ws.map Wr.low).map .int), .tuple (.bool true :: (ws.map Wr.low).map .int), .tuple (.int (w.high + 1) :: (ws.map Wr.low).map .int), .tuple (.int (0 - 1) :: (ws.map Wr.low).map .int)]
theorem odd_a (p : Plan) (w : Str) : ∀ x ∈ oddA p w, areRests x p.bounds = false := by
  intro x h
  simp only [oddA, List.mem_cons, List.not_mem_nil, or_false] at h
  rcases h with rfl | rfl | rfl | rfl | rfl
  · rfl
  · rfl
  · exact rests_len (by simp [lows, Plan.bounds])
  · rfl
  · rfl
theorem odd_b {p : Plan} {w : Wr} {ws : List Wr} (hw : p.writes = w :: ws) (h0 : 0 ≤ w.low) : ∀ x ∈ oddB w ws, areRests x p.bounds = false := by
  have hb : p.bounds = (w.low, w.high) :: ws.map fun w => (w.low, w.high) := by unfold Plan.bounds; rw [hw]; rfl
  intro x h
  simp only [oddB, List.mem_cons, List.not_mem_nil, or_false] at h
  rcases h with rfl | rfl | rfl | rfl
  · exact rests_len (by rw [hb]; simp)
  · rw [hb]; exact rests_hd rfl
  · rw [hb]; exact rests_hd (by simp [isWhole]; omega)
  · rw [hb]; exact rests_hd (by simp [isWhole]; omega)
abbrev ev (p : Plan) (Pt : Addr) (x0 x6 x7 x8 x9 x10 x11 x12 : PV) : List PV := [x0, .row, .d p.d, .d (.int p.cells), .d (.tuple (p.stays.map .int)), .d (.tuple (p.writes.map Wr.d)), x6, x7, x8, x9, x10, x11, x12, .fz (tabG Pt)]
section
variable {xa : XA} {K : Fg} {Pt : Addr} {cr : CRP} (hx : XT K xa) (Q : Dt → Prop) (p : Plan) (fp : Fair p)
include hx fp
theorem law22 (q : Q (.bool true)) (h3 : ∀ w ∈ p.writes, w.high ≤ 49 ∧ PyData.strOk w.sign = true) (x0 x6 x7 x8 x9 x10 x11 x12 : PV) :
    lawT22 xa K Pt cr (PE0 Q) (ev p Pt x0 x6 x7 x8 x9 x10 x11 x12) := by
  have po := fp.ok
  unfold lawT22 PE0 ev
  rcases hw : p.writes with _ | ⟨w, ws⟩
  · walk_at "pd"
    refine ⟨Nat.zero_le _, by decide +kernel, ?_⟩
    rw [if_pos (by simp [PyData.eqv, PyData.eqvAll])]
    exact q
  · rw [List.map_cons, show w.d = .tuple [.int w.cell, .str w.sign, .int w.ink, .int w.low, .int w.high] from rfl]
    walk_at "pd"
    refine ⟨Nat.zero_le _, eqOk_wr (w :: ws) (fun x h => (h3 x (by rw [hw]; exact h)).2), ?_⟩
    rw [if_neg (by simp [PyData.eqv, PyData.eqvAll])]
    simp only [cut45, cut1]
    have hm := fp.many
    rw [hw] at hm
    have hl : ∀ x ∈ ws, x ∈ p.writes := fun x h => by rw [hw]; exact List.mem_cons_of_mem _ h
    have h0 : w ∈ p.writes := by rw [hw]; exact List.mem_cons_self ..
    have fr : Fair { p with writes := { w with high := w.high + 1 } :: ws } := ⟨fp.cells, fp.stays, fp.stay, hm, fun x hx => by
        rcases List.mem_cons.mp hx with rfl | h
        · exact fp.cell w h0
        · exact fp.cell x (hl x h), fun x hx => by
        rcases List.mem_cons.mp hx with rfl | h
        · exact fp.sign w h0
        · exact fp.sign x (hl x h), fun x hx => by
        rcases List.mem_cons.mp hx with rfl | h
        · exact fp.ink w h0
        · exact fp.ink x (hl x h), fun x hx => by
        rcases List.mem_cons.mp hx with rfl | h
        · have := fp.low w h0; have := (h3 w h0).1; exact ⟨by show 0 ≤ w.low; omega, by show w.low ≤ w.high + 1; omega, by show w.high + 1 ≤ 50; omega⟩
        · exact fp.low x (hl x h)⟩
    refine ⟨by decide, (by show 5 ≤ sizeLine; decide), by decide, ?_, by decide, p.d, _, rfl, po.sm, .inr ⟨p, ⟨rfl, po.d⟩, fr.ok.sm, .inr ⟨_, ⟨rfl, fr.ok.d⟩, .inr ?_, _, hx.Unlike, ?_⟩⟩⟩
    · simp at hm ⊢; rw [line_eq]; omega
    · intro z
      simp only [Plan.bounds, hw, List.map_cons, List.cons.injEq, Prod.mk.injEq] at z
      omega
    · rw [decide_eq_true rfl]; exact q
theorem law21 (q : Q (.bool true)) (h3 : ∀ w ∈ p.writes, w.high ≤ 49 ∧ PyData.strOk w.sign = true) (hc : p.cells ≤ 2) (x0 x6 x7 x8 x9 x10 x11 x12 : PV) :
    lawT21 xa K Pt cr (PE0 Q) (ev p Pt x0 x6 x7 x8 x9 x10 x11 x12) := by
  have po := fp.ok
  have key := law22 (cr := cr) (Pt := Pt) hx Q p fp q h3 x0 x6 x7 x8 x9 x10 x11 x12
  unfold lawT21
  generalize lawT22 xa K Pt cr = T at key ⊢
  unfold PE0 at key ⊢
  walk_at "pd"
  have fr : Fair { p with cells := 3 } := ⟨show (1 : Int) ≤ 3 ∧ (3 : Int) ≤ 4 by decide, fp.stays, fp.stay, fp.many, fun x hx => ⟨(fp.cell x hx).1, by have := (fp.cell x hx).2; show x.cell < 3; omega⟩, fp.sign, fp.ink, fp.low⟩
  refine ⟨by decide, p.d, _, rfl, po.sm, .inr ⟨p, ⟨rfl, po.d⟩, fr.ok.sm, .inr ⟨{ p with cells := 3 }, ⟨rfl, fr.ok.d⟩, .inl (by show p.cells ≠ 3; omega), _, hx.Unlike, ?_⟩⟩⟩
  walk_at "pd"
  exact key
theorem law20 (q : Q (.bool true)) (h3 : ∀ w ∈ p.writes, w.high ≤ 49 ∧ PyData.strOk w.sign = true) (hc : p.cells ≤ 2) (o : Plan) (fo : Fair o) (ho : p.bounds ≠ o.bounds) (x0 x6 x7 x8 x9 x11 x12 : PV) :
    lawT20 xa K Pt cr (PE0 Q) (ev p Pt x0 x6 x7 x8 x9 (.d o.d) x11 x12) := by
  have po := fp.ok
  have key := law21 (cr := cr) (Pt := Pt) hx Q p fp q h3 hc x0 x6 x7 x8 x9 (.d o.d) x11 x12
  unfold lawT20
  generalize lawT21 xa K Pt cr = T at key ⊢
  unfold PE0 at key ⊢
  walk_at "pd"
  refine ⟨p.d, o.d, rfl, po.sm, .inr ⟨p, ⟨rfl, po.d⟩, fo.ok.sm, .inr ⟨o, ⟨rfl, fo.ok.d⟩, .inr ho, _, hx.Unlike, ?_⟩⟩⟩
  walk_at "pt"
  refine ⟨o.d, p.d, rfl, fo.ok.sm, .inr ⟨o, ⟨rfl, fo.ok.d⟩, po.sm, .inr ⟨p, ⟨rfl, po.d⟩, .inr (Ne.symm ho), _, hx.Unlike, ?_⟩⟩⟩
  walk_at "pt"
  exact ⟨by decide, by decide, same_lits (n := 2) (P := fun _ => True) (by decide) (by decide +kernel) key⟩
theorem law19 (q : Q (.bool true)) (h3 : ∀ w ∈ p.writes, w.high ≤ 49 ∧ PyData.strOk w.sign = true) (hc : p.cells ≤ 2) (hm : p.writes.length ≤ 7) (x0 x6 x7 x8 x9 x10 x11 x12 : PV) :
    lawT19 xa K Pt cr (PE0 Q) (ev p Pt x0 x6 x7 x8 x9 x10 x11 x12) := by
  have fo : Fair { p with writes := p.writes ++ [⟨0, "a", 0, 0, 0⟩] } := ⟨fp.cells, fp.stays, fp.stay, by simp; omega, fun x hx => by
      rcases List.mem_append.mp hx with h | h
      · exact fp.cell x h
      · cases List.mem_singleton.mp h; have := fp.cells; exact ⟨by decide, by show (0 : Int) < p.cells; omega⟩, fun x hx => by
      rcases List.mem_append.mp hx with h | h
      · exact fp.sign x h
      · cases List.mem_singleton.mp h; exact ⟨letters.1, rfl⟩, fun x hx => by
      rcases List.mem_append.mp hx with h | h
      · exact fp.ink x h
      · cases List.mem_singleton.mp h; have := fp.stays; exact ⟨by decide, by show (0 : Int) < (p.stays.length : Int); omega⟩, fun x hx => by
      rcases List.mem_append.mp hx with h | h
      · exact fp.low x h
      · cases List.mem_singleton.mp h; exact ⟨by decide, by decide, by decide⟩⟩
  have key := law20 (cr := cr) (Pt := Pt) hx Q p fp q h3 hc _ fo (fun z => by have := congrArg List.length z; simp [Plan.bounds] at this) x0 x6 x7 x8 x9 x11 x12
  unfold lawT19
  generalize lawT20 xa K Pt cr = T at key ⊢
  unfold PE0 at key ⊢
  walk_at "pd"
  rw [decide_eq_true (by simp; omega)]
  walk_at "pd"
  refine ⟨by decide, by decide, by simp; rw [line_eq]; omega, by decide, ?_⟩
  simp only [Plan.d, List.map_append, List.map_cons, List.map_nil] at key ⊢
  exact key
theorem law18 (q : Q (.bool true)) (h3 : ∀ w ∈ p.writes, w.high ≤ 49 ∧ PyData.strOk w.sign = true) (hc : p.cells ≤ 2) (hm : p.writes.length ≤ 7) (x0 x6 x7 x8 x9 x10 x11 x12 : PV) :
    lawT18 xa K Pt cr (PE0 Q) (ev p Pt x0 x6 x7 x8 x9 x10 x11 x12) := by
  have po := fp.ok
  have key := fun x8 => law19 (cr := cr) (Pt := Pt) hx Q p fp q h3 hc hm x0 x6 x7 x8 x9 x10 x11 x12
  unfold lawT18
  generalize lawT19 xa K Pt cr = T at key ⊢
  unfold PE0 at key ⊢
  have hbad : ∀ x ∈ [PyData.none, .int (0 - 1), .int (p.stays.length : Int), .bool true], isWhole x 0 ((p.stays.length : Int) - 1) = false := by
    intro x hx
    simp only [List.mem_cons, List.not_mem_nil, or_false] at hx
    rcases hx with rfl | rfl | rfl | rfl
    · rfl
    · rfl
    · simp [isWhole]; omega
    · rfl
  walk_at "pd"
  rw [List.length_map]
  refine ⟨by decide, fun _ => ?_⟩
  refine lcP_map0 (fun _ => .str "NoInk") _ _ (fun x hx' P' p' => ?_) ?_
  · walk_at "pd"
    exact ⟨p.d, x, rfl, po.sm, .inr ⟨p, ⟨rfl, po.d⟩, hbad x hx', _, hx.NoInk, p'⟩⟩
  · walk_at "pd"
    exact ⟨by decide, same_lits (n := 4) (P := fun _ => True) (by decide) (by decide +kernel) (key _)⟩
theorem law17 (q : Q (.bool true)) (h3 : ∀ w ∈ p.writes, w.high ≤ 49 ∧ PyData.strOk w.sign = true) (hc : p.cells ≤ 2) (hm : p.writes.length ≤ 7) (x0 x6 x7 x8 x9 x10 x11 x12 : PV) :
    lawT17 xa K Pt cr (PE0 Q) (ev p Pt x0 x6 x7 x8 x9 x10 x11 x12) := by
  have po := fp.ok
  have c0 : isWhole (.int 0) 0 (p.cells - 1) = true := whole_in (Int.le_refl _) (by have := fp.cells; omega)
  have key := fun x8 => law18 (cr := cr) (Pt := Pt) hx Q p fp q h3 hc hm x0 x6 x7 x8 x9 x10 x11 x12
  unfold lawT17
  generalize lawT18 xa K Pt cr = T at key ⊢
  unfold PE0 at key ⊢
  have hbad : ∀ x ∈ [PyData.none, .str "", .str "A", .str "ab", .int 3, .str "!"], smD x = true ∧ ((∃ y, x = .str y) ∨ x = .none ∨ (∃ i, x = .int i) ∨ ∃ b, x = .bool b) ∧ isSignD x = false := by
    intro x hx
    simp only [List.mem_cons, List.not_mem_nil, or_false] at hx
    rcases hx with rfl | rfl | rfl | rfl | rfl | rfl
    · exact ⟨rfl, .inr (.inl rfl), rfl⟩
    · exact ⟨rfl, .inl ⟨_, rfl⟩, by decide +kernel⟩
    · exact ⟨rfl, .inl ⟨_, rfl⟩, by decide +kernel⟩
    · exact ⟨rfl, .inl ⟨_, rfl⟩, by decide +kernel⟩
    · exact ⟨rfl, .inr (.inr (.inl ⟨_, rfl⟩)), rfl⟩
    · exact ⟨rfl, .inl ⟨_, rfl⟩, by decide +kernel⟩
  walk_at "pd"
  refine ⟨by decide, fun _ => ?_⟩
  refine lcP_map0 (fun _ => .str "NoSign") _ _ (fun x hx' P' p' => ?_) ?_
  · walk_at "pd"
    obtain ⟨b1, b2, b3⟩ := hbad x hx'
    exact ⟨p.d, .int 0, x, .none, rfl, po.sm, .inr ⟨p, ⟨rfl, po.d⟩, .inr ⟨c0, b1, b2, .inl ⟨b3, _, hx.NoSign, p'⟩⟩⟩⟩
  · walk_at "pd"
    exact ⟨by decide, same_lits (n := 6) (P := fun _ => True) (by decide) (by decide +kernel) (key _)⟩
theorem law16 (q : Q (.bool true)) (h3 : ∀ w ∈ p.writes, w.high ≤ 49 ∧ PyData.strOk w.sign = true) (hc : p.cells ≤ 2) (hm : p.writes.length ≤ 7) (x0 x7 x8 x9 x10 x11 x12 : PV) :
    lawT16 xa K Pt cr (PE0 Q) (ev p Pt x0 (.d (paceD p)) x7 x8 x9 x10 x11 x12) := by
  have po := fp.ok
  have pc := fp.pace
  have c0 : isWhole (.int 0) 0 (p.cells - 1) = true := whole_in (Int.le_refl _) (by have := fp.cells; omega)
  have key := law17 (cr := cr) (Pt := Pt) hx Q p fp q h3 hc hm x0 (.d (paceD p)) x7 x8 x9 x10 x11 x12
  unfold lawT16
  generalize lawT17 xa K Pt cr = T at key ⊢
  unfold PE0 at key ⊢
  walk_at "pd"
  refine ⟨p.d, paceD p, .int 0, .int 1000, rfl, po.sm, .inr ⟨p, ⟨rfl, po.d⟩, .inr ⟨pc, .inr ⟨c0, .inr ⟨rfl, po.inks, lows p, 0, 1000, rfl, by simp [lows]; omega, rfl, rfl, ?_⟩⟩⟩⟩⟩
  walk_at "pt"
  exact key
theorem law15 (q : Q (.bool true)) (h3 : ∀ w ∈ p.writes, w.high ≤ 49 ∧ PyData.strOk w.sign = true) (hc : p.cells ≤ 2) (hm : p.writes.length ≤ 7) (x0 x7 x8 x9 x10 x11 x12 : PV) :
    lawT15 xa K Pt cr (PE0 Q) (ev p Pt x0 (.d (paceD p)) x7 x8 x9 x10 x11 x12) := by
  have po := fp.ok
  have pc := fp.pace
  have c0 : isWhole (.int 0) 0 (p.cells - 1) = true := whole_in (Int.le_refl _) (by have := fp.cells; omega)
  have key := law16 (cr := cr) (Pt := Pt) hx Q p fp q h3 hc hm x0 x7 x8 x9 x10 x11 x12
  unfold lawT15
  generalize lawT16 xa K Pt cr = T at key ⊢
  unfold PE0 at key ⊢
  walk_at "pd"
  refine ⟨p.d, paceD p, .int 0, .int 201, rfl, po.sm, .inr ⟨p, ⟨rfl, po.d⟩, .inr ⟨pc, .inr ⟨c0, rfl, _, hx.BadTick, ?_⟩⟩⟩⟩
  walk_at "pt"
  refine ⟨p.d, .int 0, .str ".", .int 201, rfl, po.sm, .inr ⟨p, ⟨rfl, po.d⟩, .inr ⟨c0, rfl, .inl ⟨_, rfl⟩, .inr ⟨by decide +kernel, rfl, _, hx.BadTick, ?_⟩⟩⟩⟩
  walk_at "pt"
  exact ⟨by decide, by decide, same_lits (n := 2) (P := fun _ => True) (by decide) (by decide +kernel) key⟩
theorem law14 (x0 x7 x8 x9 x10 x11 x12 : PV) (key : ∀ x8 x9, lawT15 xa K Pt cr (PE0 Q) (ev p Pt x0 (.d (paceD p)) x7 x8 x9 x10 x11 x12)) :
    lawT14 xa K Pt cr (PE0 Q) (ev p Pt x0 (.d (paceD p)) x7 x8 x9 x10 x11 x12) := by
  have po := fp.ok
  have pc := fp.pace
  have c0 : isWhole (.int 0) 0 (p.cells - 1) = true := whole_in (Int.le_refl _) (by have := fp.cells; omega)
  unfold lawT14
  generalize lawT15 xa K Pt cr = T at key ⊢
  refine for_all [.none, .int (0 - 1), .int 1001, .bool true, .str "0"] (fun ρ => ∃ x8 x9, ρ = ev p Pt x0 (.d (paceD p)) x7 x8 x9 x10 x11 x12) (fun x => isWhole x 0 1000 = false ∧ isWhole x 0 200 = false) (fun R r => ?_) ?_ ⟨x8, x9, rfl⟩ ?_ ?_
  · walk_at "pd"
    exact ⟨by decide, r⟩
  · intro x h
    simp only [List.mem_cons, List.not_mem_nil, or_false] at h
    rcases h with rfl | rfl | rfl | rfl | rfl <;> exact ⟨rfl, rfl⟩
  · rintro x ⟨b1, b2⟩ _ ⟨x8, x9, rfl⟩ P' hP
    refine set_clos c_lst ?_
    refine no_test (c_add c_var c_lst) ?_ (hP _ ⟨_, _, rfl⟩)
    intro tx ht
    simp only [List.cons_append, List.nil_append, List.mem_cons, List.not_mem_nil, or_false] at ht
    rcases ht with rfl | rfl | rfl | rfl | rfl
    · walk_at "tl"; exact ⟨p.d, paceD p, .int 0, x, rfl, po.sm, .inr ⟨p, ⟨rfl, po.d⟩, .inr ⟨pc, .inr ⟨c0, .inl ⟨b1, _, hx.BadTick, rfl⟩⟩⟩⟩⟩
    · walk_at "tl"; exact ⟨p.d, paceD p, x, rfl, po.sm, .inr ⟨p, ⟨rfl, po.d⟩, .inr ⟨pc, b1, _, hx.BadTick, rfl⟩⟩⟩
    · walk_at "tl"; exact ⟨p.d, .int 0, x, rfl, po.sm, .inr ⟨p, ⟨rfl, po.d⟩, .inr ⟨c0, b1, _, hx.BadTick, rfl⟩⟩⟩
    · walk_at "tl"; exact ⟨p.d, paceD p, .int 0, x, rfl, po.sm, .inr ⟨p, ⟨rfl, po.d⟩, .inr ⟨pc, .inr ⟨c0, b2, _, hx.BadTick, rfl⟩⟩⟩⟩
    · walk_at "tl"; exact ⟨p.d, .int 0, .str "a", x, rfl, po.sm, .inr ⟨p, ⟨rfl, po.d⟩, .inr ⟨c0, rfl, .inl ⟨_, rfl⟩, .inr ⟨by decide +kernel, b2, _, hx.BadTick, rfl⟩⟩⟩⟩
  · rintro _ ⟨x8, x9, rfl⟩
    exact key x8 x9
theorem law13 (x0 x7 x8 x9 x10 x11 x12 : PV) (key : ∀ x8 x9, lawT14 xa K Pt cr (PE0 Q) (ev p Pt x0 (.d (paceD p)) x7 x8 x9 x10 x11 x12)) :
    lawT13 xa K Pt cr (PE0 Q) (ev p Pt x0 (.d (paceD p)) x7 x8 x9 x10 x11 x12) := by
  have po := fp.ok
  have pc := fp.pace
  unfold lawT13
  generalize lawT14 xa K Pt cr = T at key ⊢
  refine for_all [.none, .int (0 - 1), .int p.cells, .bool true, .str "0"] (fun ρ => ∃ x8 x9, ρ = ev p Pt x0 (.d (paceD p)) x7 x8 x9 x10 x11 x12) (fun x => isWhole x 0 (p.cells - 1) = false) (fun R r => ?_) ?_ ⟨x8, x9, rfl⟩ ?_ ?_
  · walk_at "pd"
    exact ⟨by decide, r⟩
  · intro x h
    simp only [List.mem_cons, List.not_mem_nil, or_false] at h
    rcases h with rfl | rfl | rfl | rfl | rfl
    · rfl
    · rfl
    · simp [isWhole]; omega
    · rfl
    · rfl
  · rintro x b1 _ ⟨x8, x9, rfl⟩ P' hP
    refine set_clos c_lst ?_
    refine no_test (c_add c_var c_lst) ?_ (hP _ ⟨_, _, rfl⟩)
    intro tx ht
    simp only [List.cons_append, List.nil_append, List.mem_cons, List.not_mem_nil, or_false] at ht
    rcases ht with rfl | rfl | rfl | rfl
    · walk_at "tl"; exact ⟨p.d, paceD p, x, .none, rfl, po.sm, .inr ⟨p, ⟨rfl, po.d⟩, .inr ⟨pc, .inl ⟨b1, _, hx.NoCell, rfl⟩⟩⟩⟩
    · walk_at "tl"; exact ⟨p.d, paceD p, x, .none, rfl, po.sm, .inr ⟨p, ⟨rfl, po.d⟩, .inr ⟨pc, .inl ⟨b1, _, hx.NoCell, rfl⟩⟩⟩⟩
    · walk_at "tl"; exact ⟨p.d, x, .none, rfl, po.sm, .inr ⟨p, ⟨rfl, po.d⟩, .inl ⟨b1, _, hx.NoCell, rfl⟩⟩⟩
    · walk_at "tl"; exact ⟨p.d, x, .none, .none, rfl, po.sm, .inr ⟨p, ⟨rfl, po.d⟩, .inl ⟨b1, _, hx.NoCell, rfl⟩⟩⟩
  · rintro _ ⟨x8, x9, rfl⟩
    exact key x8 x9
theorem law12 (odd : List Dt) (ho : ∀ x ∈ odd, areRests x p.bounds = false) (x0 x8 x9 x10 x11 x12 : PV) (key : ∀ x8 x9, lawT13 xa K Pt cr (PE0 Q) (ev p Pt x0 (.d (paceD p)) (.d (.list odd)) x8 x9 x10 x11 x12)) :
    lawT12 xa K Pt cr (PE0 Q) (ev p Pt x0 (.d (paceD p)) (.d (.list odd)) x8 x9 x10 x11 x12) := by
  have po := fp.ok
  unfold lawT12
  generalize lawT13 xa K Pt cr = T at key ⊢
  refine for_all odd (fun ρ => ∃ x8 x9, ρ = ev p Pt x0 (.d (paceD p)) (.d (.list odd)) x8 x9 x10 x11 x12) (fun x => areRests x p.bounds = false) (fun R r => ?_) ho ⟨x8, x9, rfl⟩ ?_ ?_
  · walk_at "pd"
    exact r
  · rintro x b1 _ ⟨x8, x9, rfl⟩ P' hP
    refine set_clos c_lst ?_
    refine no_test c_var ?_ (hP _ ⟨_, _, rfl⟩)
    intro tx ht
    simp only [List.cons_append, List.nil_append, List.mem_cons, List.not_mem_nil, or_false] at ht
    rcases ht with rfl | rfl | rfl | rfl
    · walk_at "tl"; exact ⟨p.d, x, rfl, po.sm, .inr ⟨p, ⟨rfl, po.d⟩, b1, _, hx.BadPace, rfl⟩⟩
    · walk_at "tl"; exact ⟨p.d, x, .none, .none, rfl, po.sm, .inr ⟨p, ⟨rfl, po.d⟩, .inl ⟨b1, _, hx.BadPace, rfl⟩⟩⟩
    · walk_at "tl"; exact ⟨p.d, x, .none, rfl, po.sm, .inr ⟨p, ⟨rfl, po.d⟩, .inl ⟨b1, _, hx.BadPace, rfl⟩⟩⟩
    · walk_at "tl"; exact ⟨p.d, x, .none, .none, rfl, po.sm, .inr ⟨p, ⟨rfl, po.d⟩, .inl ⟨b1, _, hx.BadPace, rfl⟩⟩⟩
  · rintro _ ⟨x8, x9, rfl⟩
    exact key x8 x9
theorem law11 (w : Str) (x0 x8 x9 x10 x11 x12 : PV) (key : ∀ x7 x8 x9, lawT13 xa K Pt cr (PE0 Q) (ev p Pt x0 (.d (paceD p)) x7 x8 x9 x10 x11 x12)) :
    lawT11 xa K Pt cr (PE0 Q) (ev p Pt x0 (.d (paceD p)) (.d (.list (oddA p w))) x8 x9 x10 x11 x12) := by
  have k12 := fun odd ho => law12 (Pt := Pt) (cr := cr) hx Q p fp odd ho x0 x8 x9 x10 x11 x12 (fun x8 x9 => key _ x8 x9)
  have oa := odd_a p w
  unfold lawT11
  generalize lawT12 xa K Pt cr = T at k12 ⊢
  unfold PE0 ev at k12 ⊢
  rcases hw : p.writes with _ | ⟨v, ws⟩
  · rw [hw] at k12
    have hp : paceD p = .tuple [] := by unfold paceD lows; rw [hw]; rfl
    rw [hp] at k12 ⊢
    walk_at "pd"
    refine ⟨Nat.zero_le _, by decide +kernel, ?_⟩
    rw [show PyData.eqv (.tuple []) (.tuple []) = true by simp [PyData.eqv, PyData.eqvAll]]
    walk_at "pt"
    exact k12 _ oa
  · have ob := odd_b hw (fp.low v (by rw [hw]; exact List.mem_cons_self ..)).1
    rw [hw] at k12
    have hp : paceD p = .tuple (.int v.low :: (ws.map Wr.low).map .int) := by unfold paceD lows; rw [hw]; rfl
    have ok := eqOk_ns (lows p)
    have hl := fp.many
    rw [hw, List.length_cons] at hl
    rw [show PyData.tuple ((lows p).map .int) = paceD p from rfl] at ok
    rw [hp] at k12 ok ⊢
    rw [List.map_cons] at k12 ⊢
    have lo : (oddA p w).length = 5 := rfl
    generalize oddA p w = oA at k12 oa lo ⊢
    walk_at "pd"
    refine ⟨Nat.zero_le _, ok, ?_⟩
    rw [show PyData.eqv (.tuple (.int v.low :: (ws.map Wr.low).map .int)) (.tuple []) = false by simp [PyData.eqv, PyData.eqvAll]]
    simp only [cut1, wr_ix4, Bool.not_false, if_true]
    have hz : 1 + (List.map PyData.int (List.map Wr.low ws)).length ≤ sizeLine := by rw [line_eq]; simp; omega
    exact ⟨by decide, hz, by decide, hz, by decide, hz, by decide, by rw [lo]; decide, k12 (oA ++ oddB v ws) fun x h => (List.mem_append.mp h).elim (oa x) (ob x)⟩
theorem law10 (x0 x7 x8 x9 x10 x11 x12 : PV) (key : ∀ x7 x8 x9, lawT13 xa K Pt cr (PE0 Q) (ev p Pt x0 (.d (paceD p)) x7 x8 x9 x10 x11 x12)) :
    lawT10 xa K Pt cr (PE0 Q) (ev p Pt x0 (.d (paceD p)) x7 x8 x9 x10 x11 x12) := by
  have k11 := fun w => law11 (Pt := Pt) (cr := cr) hx Q p fp w x0 x8 x9 x10 x11 x12 key
  unfold lawT10
  generalize lawT11 xa K Pt cr = T at k11 ⊢
  have hl := fp.many
  have hz : ((lows p).map PyData.int).length ≤ 8 := by unfold lows; simp; omega
  unfold PE0 ev oddA at k11
  unfold PE0 ev
  rw [show paceD p = .tuple ((lows p).map .int) from rfl] at k11 ⊢
  generalize (lows p).map PyData.int = L at k11 hz ⊢
  walk_at "pd"
  exact ⟨by decide, by rw [line_eq]; omega, by omega, by omega, rfl, fun w _ => ⟨by decide, k11 w⟩⟩
theorem bad_plans : ∀ x ∈ [PyData.none, .tuple [], .list [.int p.cells, .tuple (p.stays.map .int), .tuple (p.writes.map Wr.d)], .tuple [.int p.cells, .tuple (p.stays.map .int)], .tuple [.int 0, .tuple (p.stays.map .int), .tuple []],
    .tuple [.int p.cells, .tuple [], .tuple []], .tuple [.int p.cells, .tuple (p.stays.map .int), .list (p.writes.map Wr.d)], .int 3, .tuple [.int p.cells, .tuple (p.stays.map .int), .tuple [.tuple [.int p.cells, .str "a", .int 0, .int 0, .int 0]]]], smD x = true ∧ isPlan x = false := by
  have sm := fp.ok.sm
  unfold Plan.d at sm
  simp only [smD, smDs, Bool.and_eq_true, Bool.and_true, Bool.true_and] at sm
  obtain ⟨s1, s2⟩ := sm
  intro x hx
  simp only [List.mem_cons, List.not_mem_nil, or_false] at hx
  rcases hx with rfl | rfl | rfl | rfl | rfl | rfl | rfl | rfl | rfl
  · exact ⟨rfl, rfl⟩
  · exact ⟨rfl, rfl⟩
  · exact ⟨by simp [smD, smDs, s1, s2], rfl⟩
  · exact ⟨by simp [smD, smDs, s1], rfl⟩
  · exact ⟨by simp [smD, smDs, s1], by simp [isPlan, isWhole]⟩
  · exact ⟨by simp [smD, smDs], by simp [isPlan, isRow]⟩
  · exact ⟨by simp [smD, smDs, s1, s2], by simp [isPlan, isRow]⟩
  · exact ⟨rfl, rfl⟩
  · refine ⟨by simp [smD, smDs, s1]; decide, ?_⟩
    have : isWhole (.int p.cells) 0 (p.cells - 1) = false := by simp [isWhole]; omega
    simp [isPlan, elems, isWrite, intOf, this]
theorem law6 (x0 x6 x7 x9 x10 x11 x12 : PV) (bad : Dt) (h1 : smD bad = true) (h2 : isPlan bad = false) (key : ∀ x9, lawT10 xa K Pt cr (PE0 Q) (ev p Pt x0 x6 x7 (.d bad) x9 x10 x11 x12)) :
    lawT6 xa K Pt cr (PE0 Q) (ev p Pt x0 x6 x7 (.d bad) x9 x10 x11 x12) := by
  have po := fp.ok
  unfold lawT6
  generalize lawT10 xa K Pt cr = T at key ⊢
  refine set_clos c_lst ?_
  refine set_clos (c_add c_var c_lst) ?_
  refine set_clos (c_add c_var c_lst) ?_
  refine seq_if (no_test c_var ?_ (key _))
  intro tx ht
  simp only [List.cons_append, List.nil_append, List.mem_cons, List.not_mem_nil, or_false] at ht
  rcases ht with rfl | rfl | rfl | rfl | rfl | rfl | rfl | rfl | rfl | rfl | rfl | rfl
  · walk_at "tl"; exact ⟨bad, .none, rfl, h1, .inl ⟨h2, _, hx.BadPlan, rfl⟩⟩
  · walk_at "tl"; exact ⟨bad, .none, .none, .none, rfl, h1, .inl ⟨h2, _, hx.BadPlan, rfl⟩⟩
  · walk_at "tl"; exact ⟨bad, .none, .none, rfl, h1, .inl ⟨h2, _, hx.BadPlan, rfl⟩⟩
  · walk_at "tl"; exact ⟨bad, .none, .none, .none, rfl, h1, .inl ⟨h2, _, hx.BadPlan, rfl⟩⟩
  · walk_at "tl"; exact ⟨bad, .none, .none, rfl, h1, .inl ⟨h2, _, hx.BadPlan, rfl⟩⟩
  · walk_at "tl"; exact ⟨bad, .none, .none, .none, rfl, h1, .inl ⟨h2, _, hx.BadPlan, rfl⟩⟩
  · walk_at "tl"; exact ⟨bad, rfl, h1, h2, _, hx.BadPlan, rfl⟩
  · walk_at "tl"; exact ⟨bad, rfl, h1, h2, _, hx.BadPlan, rfl⟩
  · walk_at "tl"; exact ⟨bad, .none, rfl, h1, .inl ⟨h2, _, hx.BadPlan, rfl⟩⟩
  · walk_at "tl"; exact ⟨p.d, bad, rfl, po.sm, .inr ⟨p, ⟨rfl, po.d⟩, h1, .inl ⟨h2, _, hx.BadPlan, rfl⟩⟩⟩
  · walk_at "tl"; exact ⟨p.d, bad, rfl, po.sm, .inr ⟨p, ⟨rfl, po.d⟩, h1, .inl ⟨h2, _, hx.BadPlan, rfl⟩⟩⟩
  · walk_at "tl"; exact ⟨bad, .none, rfl, h1, .inl ⟨h2, _, hx.BadPlan, rfl⟩⟩
theorem law4 (x0 x7 x8 x9 x10 x11 x12 : PV) (key : ∀ (x7 : PV) (bad : Dt) (x9 : PV), smD bad = true → isPlan bad = false → lawT6 xa K Pt cr (PE0 Q) (ev p Pt x0 (.d (paceD p)) x7 (.d bad) x9 x10 x11 x12)) :
    lawT4 xa K Pt cr (PE0 Q) (ev p Pt x0 (.d (paceD p)) x7 x8 x9 x10 x11 x12) := by
  have B := bad_plans hx p fp
  have hd : p.d = .tuple [.int p.cells, .tuple (p.stays.map .int), .tuple (p.writes.map Wr.d)] := rfl
  unfold lawT4
  generalize lawT6 xa K Pt cr = T at key ⊢
  unfold PE0 ev at key ⊢
  rw [hd] at key ⊢
  walk_at "pd"
  exact ⟨by decide, by decide, by decide, by decide, by decide, by decide, by decide, by decide, by decide, by decide, by decide, by decide, by decide, by decide, _, rfl, by simp, by simp, fun x hx' => key _ x _ (B x hx').1 (B x hx').2⟩
theorem law3 (x0 x6 x7 x8 x9 x10 x11 x12 : PV) (key : lawT4 xa K Pt cr (PE0 Q) (ev p Pt x0 (.d (paceD p)) x7 x8 x9 x10 x11 x12)) :
    lawT3 xa K Pt cr (PE0 Q) (ev p Pt x0 x6 x7 x8 x9 x10 x11 x12) := by
  unfold lawT3
  generalize lawT4 xa K Pt cr = T at key ⊢
  unfold PE0 ev paceD lows at key
  unfold PE0 ev
  have hl := fp.many
  walk_at "pd"
  intro _
  refine lcP_enc Wr.d (fun w => .int w.low) p.writes _ (fun w _ P' p' => ?_) ?_
  · walk_at "pd"
    walk_at "pq"
    exact p'
  · rw [List.map_map] at key
    exact key
end
theorem Drawn.oks {m w : Int} {p : Plan} (h : Drawn m w p) : ∀ x ∈ p.writes, PyData.strOk x.sign = true := fun x hx => by
  rcases h.sign x hx with e | e | e <;> rw [e] <;> decide +kernel
theorem holds_law (xa : XA) (K : Fg) (Pt : Addr) (cr : CRP) (hx : XT K xa) : ∀ as Q, F_law as Q → rd_law xa K Pt cr { nx := fun _ => Q .none, rt := Q } ((startP ["script", "row", "plan", "cells", "stays", "writes", "pace", "odd", "bad", "calls", "other", "write", "call", "%tab"] as).set 13 (.fz (tabG Pt))) := by
  rintro _ Q ⟨ns, rfl, q⟩
  have key := fun (p : Plan) (hp : Drawn 5 3 p) =>
    have fp := hp.fair (by decide) (by decide)
    have hm := hp.many
    have hc := hp.cells
    have h3 : ∀ w ∈ p.writes, w.high ≤ 49 ∧ PyData.strOk w.sign = true := fun w hw => ⟨by have := hp.low w hw; have := hp.high w hw; omega, hp.oks w hw⟩
    law3 (Pt := Pt) (cr := cr) hx Q p fp (.scr ns) .un .un .un .un .un .un .un (law4 hx Q p fp _ _ _ _ _ _ _ fun x7 bad x9 b1 b2 => law6 hx Q p fp _ _ _ _ _ _ _ bad b1 b2 fun x9 => law10 hx Q p fp _ _ _ _ _ _ _ fun x7 x8 x9 =>
      law13 hx Q p fp _ _ _ _ _ _ _ fun x8 x9 => law14 hx Q p fp _ _ _ _ _ _ _ fun x8 x9 => law15 hx Q p fp q h3 hc.2 (by omega) _ _ _ _ _ _ _)
  unfold rd_law
  generalize lawT3 xa K Pt cr = T at key ⊢
  unfold PE0 ev at key
  walk_at "pd"
  refine ⟨no_row (by simp), 5, 3, rfl, by decide, by decide, fun p hp => ?_⟩
  walk_at "pq"
  exact key p hp


end PF
namespace PF
open PySem PySem.Spec PyProof.Rows L2 PD
def topS (i : Nat) : Stmt := PySem.Challenge.pw_fadinginks_k01_plans_refused.main.body.getD i (.Pass ⟨0, 0, 0, 0⟩)
abbrev s__law_taken : Stmt := topS 70
theorem sc__law_taken : FnScope ["row", "many", "found", "cell"] ["row", "many"] (defScope s__law_taken) := ⟨rfl, rfl, rfl, by decide +kernel, rfl, by decide +kernel, by decide +kernel⟩
section
variable {P' : Program} {w : World} {K : Fg} {mg : Str → Option Value} {base : Heap}
theorem row_at {K : Fg} {H : Hp} {a : Addr} {xs : List V} {i : Int} {v : V} {Q : VK} (h : H a = some (.lst xs)) (e : atI xs i = some v) (q : Q v H) : rIxL K (.ref a) (.int i) H Q := ⟨a, xs, i, v, rfl, rfl, SqL.of h, e, q⟩
theorem ok__law_taken {f : Addr} {fd : FuncData} (Fu : Fun K "_law_taken" "_law_taken" s__law_taken f fd) (B : Blt mg) : FnOk P' w K mg base CX0 1 f fd ["row", "many"] (liftF K Ftaken) := by
  refine Fu.ok sc__law_taken (fun vs H Q E ⟨r, G, as, P, _, A, ⟨n, e, _⟩, _⟩ => (Paired.length A).trans (by subst e; rfl)) fun cdv A outer s H vs Q E hr ⟨r, G, as, P, S, A, ⟨n, e, h0, h1, p⟩, q⟩ => ?_
  subst e
  cases A with
  | cons A1 A2 =>
    cases A2 with
    | cons A2 A3 =>
      cases A3
      obtain ⟨a, rfl, rfl⟩ := A1
      cases A2
      obtain ⟨ga, sa, ns, i, sd, qq, hH, hS, hi⟩ := S.row a rfl
      have gsame : ∀ xs : List V, Same G (upd H a (.lst xs)) := fun xs b o e => by
        rw [upd_ne (ne_of_none e ga)]
        exact S.gh _ _ e
      have nc := sc__law_taken.nd
      refine ⟨_, pss_cons (ps_if (pt_cmpR op_gt (pe_ix ix_list (pv 0) pe_int (fun _ _ => rfl)) pe_int (nomark _))
          (pss_cons (ps_set (i := 2) nc rfl (.inl rfl) (pe_op op_mod (pe_callTy call_int1 (by rfl) B.int (by decide +kernel) (pa_cons (pe_ix ix_list (pv 0) pe_int (fun _ _ => rfl)) pa_nil)) (pv 1)))
          (pss_cons (ps_asg (pe_op op_fdiv (pe_ix ix_list (pv 0) pe_int (fun _ _ => rfl)) (pv 1)) (pg_sub (pv 0) pe_int set_list))
          (pss_one (ps_ret (pv 2))))) pss_nil)
        (pss_cons (ps_asg (pe_op op_add (pe_ix ix_list (pv 0) pe_int (fun _ _ => rfl)) pe_int) (pg_sub (pv 0) pe_int set_list))
        (pss_cons (ps_if (pt_cmpR op_gt (pe_ix ix_list (pv 0) pe_int (fun _ _ => rfl)) (pe_callB call_len_seq (by rfl) B.len PySem.boot_len (pa_cons (pe_ix ix_list (pv 0) pe_int (fun _ _ => rfl)) pa_nil)) (nomark _))
          (pss_cons (ps_asg (pe_op op_mod (pe_callTy call_int1 (by rfl) B.int (by decide +kernel) (pa_cons (pe_op op_add (pe_op op_mul (pe_ix ix_list (pv 0) pe_int (fun _ _ => rfl)) pe_int) pe_int) pa_nil)) pe_int) (pg_sub (pv 0) pe_int set_list))
          (pss_one (ps_ret (pe_op op_mod (pe_callTy call_int1 (by rfl) B.int (by decide +kernel) (pa_cons (pe_op op_fdiv (pe_ix ix_list (pv 0) pe_int (fun _ _ => rfl)) pe_int) pa_nil)) (pv 1))))) pss_nil)
        (pss_cons (ps_set (i := 3) nc rfl (.inl rfl) (pe_ix ix_list (pe_ix ix_list (pv 0) pe_int (fun _ _ => rfl)) (pe_op op_sub (pe_ix ix_list (pv 0) pe_int (fun _ _ => rfl)) pe_int) (fun _ _ => rfl)))
        (pss_cons (ps_asg (pe_op op_mod (pe_callTy call_int1 (by rfl) B.int (by decide +kernel) (pa_cons (pe_op op_add (pe_op op_add (pe_op op_mul (pe_ix ix_list (pv 0) pe_int (fun _ _ => rfl)) pe_int) (pv 3)) pe_int) pa_nil)) pe_int) (pg_sub (pv 0) pe_int set_list))
        (pss_cons (ps_if (pt_cmpR op_ge (pv 3) (pe_op op_pow pe_int pe_int) (nomark _)) (pss_one (ps_asg (pe_op op_fdiv (pv 3) (pv 1)) (pg_sub (pv 0) pe_int set_list))) pss_nil)
        (pss_one (ps_ret (pe_op op_mod (pe_callTy call_int1 (by rfl) B.int (by decide +kernel) (pa_cons (pv 3) pa_nil)) (pv 1))))))))), ?_⟩
      have fin : ∀ (H' : Hp) (i' s' q' x : Int), H' a = some (.lst [.ref sa, .int i', .int s', .int q']) → 0 ≤ i' → (∀ b, b ≠ a → H' b = H b) → Q (.int (x % n)) H' := fun H' i' s' q' x e h2 k =>
        q (.int _) (.int _) G _ (p _ (mod_in h0).1 (mod_in h0).2) (row_grow S e hS h2 k) (.int _)
      refine ⟨.ref a, rfl, a, _, 3, .int qq, rfl, rfl, SqL.of hH, rfl, _, _, rfl, rfl, _, rfl, ite2 (fun c => ?_) (fun c => ?_)⟩
      · -- the rest of a great cell
        refine ⟨.ref a, rfl, a, _, 3, .int qq, rfl, rfl, SqL.of hH, rfl, .inl ⟨qq, rfl, .int n, rfl, qq, n, rfl, rfl, h0, ?_⟩⟩
        refine ⟨.ref a, rfl, a, _, 3, .int qq, rfl, rfl, SqL.of hH, rfl, .int n, rfl, qq, n, rfl, rfl, ⟨h0, h1⟩, .ref a, rfl, a, _, 3, 3, rfl, rfl, hH, rfl, ?_⟩
        exact ⟨_, rfl, fin _ i sd _ qq upd_same hi fun b hb => upd_ne hb⟩
      · -- row[1] = row[1] + 1
        refine ⟨.ref a, rfl, a, _, 1, .int i, rfl, rfl, SqL.of hH, rfl, i, 1, rfl, rfl, .ref a, rfl, a, _, 1, 1, rfl, rfl, hH, rfl, ?_⟩
        refine ⟨.ref a, rfl, a, _, 1, .int (i + 1), rfl, rfl, SqL.of upd_same, rfl, .ref a, rfl, a, _, 0, .ref sa, rfl, rfl, SqL.of upd_same, rfl, sa, ns.map V.int, rfl, .inl ((gsame _).seq hS), _, _, rfl, rfl, _, rfl, ite2 (fun c => ?_) (fun c => ?_)⟩
        · -- beyond the script
          refine ⟨.ref a, rfl, a, _, 2, .int sd, rfl, rfl, SqL.of upd_same, rfl, _, _, rfl, rfl, .inr (by decide), _, _, rfl, rfl, .inl ⟨_, rfl, _, _, rfl, rfl, (by show (0 : Int) < 2147483647; decide), .ref a, rfl, a, _, 2, 2, rfl, rfl, upd_same, rfl, ?_⟩⟩
          refine ⟨.ref a, rfl, a, _, 2, _, rfl, rfl, SqL.of upd_same, rfl, _, _, rfl, rfl, ⟨by decide, by decide⟩, .inl ⟨_, rfl, .int n, rfl, _, n, rfl, rfl, h0, ?_⟩⟩
          exact fin _ (i + 1) _ qq _ upd_same (by omega) fun b hb => (upd_ne hb).trans (upd_ne hb)
        · -- a cell of the script
          have hc : i + 1 ≤ (ns.length : Int) := by
            have := of_decide_eq_false (Bool.eq_false_iff.mpr c)
            rw [List.length_map] at this
            omega
          have hlt : i.toNat < ns.length := by omega
          have hat : atI (ns.map V.int) (i + 1 - 1) = some (.int ns[i.toNat]) := by
            have e : i + 1 - 1 = ((i.toNat : Nat) : Int) := by omega
            rw [e]
            refine atI_nat ?_
            rw [List.getElem?_map, List.getElem?_eq_getElem hlt]
            rfl
          refine ⟨.ref a, rfl, a, _, 0, .ref sa, rfl, rfl, SqL.of upd_same, rfl, .ref a, rfl, a, _, 1, .int (i + 1), rfl, rfl, SqL.of upd_same, rfl, _, _, rfl, rfl, sa, _, _, _, rfl, rfl, (gsame _).seq hS, hat, ?_⟩
          generalize ns[i.toNat] = cl
          refine ⟨.ref a, rfl, a, _, 2, .int sd, rfl, rfl, SqL.of upd_same, rfl, _, _, rfl, rfl, .inr (by decide), .int cl, rfl, _, _, rfl, rfl, _, _, rfl, rfl, .inl ⟨_, rfl, _, _, rfl, rfl, (by show (0 : Int) < 2147483647; decide), .ref a, rfl, a, _, 2, 2, rfl, rfl, upd_same, rfl, ?_⟩⟩
          refine ⟨.int cl, rfl, _, _, rfl, rfl, ⟨by decide, by decide, by decide⟩, _, _, rfl, rfl, _, rfl, ite2 (fun c2 => ?_) (fun c2 => ?_)⟩
          · refine ⟨.int cl, rfl, .int n, rfl, _, _, rfl, rfl, ⟨h0, h1⟩, .ref a, rfl, a, _, 3, 3, rfl, rfl, upd_same, rfl, ?_⟩
            refine ⟨.int cl, rfl, .inl ⟨_, rfl, .int n, rfl, _, n, rfl, rfl, h0, ?_⟩⟩
            exact fin _ (i + 1) _ _ _ upd_same (by omega) fun b hb => (upd_ne hb).trans ((upd_ne hb).trans (upd_ne hb))
          · refine ⟨.int cl, rfl, .inl ⟨_, rfl, .int n, rfl, _, n, rfl, rfl, h0, ?_⟩⟩
            exact fin _ (i + 1) _ _ _ upd_same (by omega) fun b hb => (upd_ne hb).trans (upd_ne hb)
end
structure XC (K : Fg) (mg : Str → Option Value) (xa : XA) : Prop where
  gBadPlan : mg "BadPlan" = some (.ref xa.BadPlan)
  xBadPlan : PySem.W.excIn K xa.BadPlan [.type "ValueError", .type "Exception", .type "BaseException", .type "object"] "ValueError.__new__" = true
  kBadPlan : PySem.W.keepIn K (.ref xa.BadPlan) = true
  bBadPlan : PySem.W.subIn K (.ref xa.BadPlan) (.type "BaseException") = some true
  tBadPlan : PySem.W.typeIn K (.ref xa.BadPlan) = some (.type "type")
  gBadPace : mg "BadPace" = some (.ref xa.BadPace)
  xBadPace : PySem.W.excIn K xa.BadPace [.type "ValueError", .type "Exception", .type "BaseException", .type "object"] "ValueError.__new__" = true
  kBadPace : PySem.W.keepIn K (.ref xa.BadPace) = true
  bBadPace : PySem.W.subIn K (.ref xa.BadPace) (.type "BaseException") = some true
  tBadPace : PySem.W.typeIn K (.ref xa.BadPace) = some (.type "type")
  gNoCell : mg "NoCell" = some (.ref xa.NoCell)
  xNoCell : PySem.W.excIn K xa.NoCell [.type "ValueError", .type "Exception", .type "BaseException", .type "object"] "ValueError.__new__" = true
  kNoCell : PySem.W.keepIn K (.ref xa.NoCell) = true
  bNoCell : PySem.W.subIn K (.ref xa.NoCell) (.type "BaseException") = some true
  tNoCell : PySem.W.typeIn K (.ref xa.NoCell) = some (.type "type")
  gBadTick : mg "BadTick" = some (.ref xa.BadTick)
  xBadTick : PySem.W.excIn K xa.BadTick [.type "ValueError", .type "Exception", .type "BaseException", .type "object"] "ValueError.__new__" = true
  kBadTick : PySem.W.keepIn K (.ref xa.BadTick) = true
  bBadTick : PySem.W.subIn K (.ref xa.BadTick) (.type "BaseException") = some true
  tBadTick : PySem.W.typeIn K (.ref xa.BadTick) = some (.type "type")
  gNoSign : mg "NoSign" = some (.ref xa.NoSign)
  xNoSign : PySem.W.excIn K xa.NoSign [.type "ValueError", .type "Exception", .type "BaseException", .type "object"] "ValueError.__new__" = true
  kNoSign : PySem.W.keepIn K (.ref xa.NoSign) = true
  bNoSign : PySem.W.subIn K (.ref xa.NoSign) (.type "BaseException") = some true
  tNoSign : PySem.W.typeIn K (.ref xa.NoSign) = some (.type "type")
  gNoInk : mg "NoInk" = some (.ref xa.NoInk)
  xNoInk : PySem.W.excIn K xa.NoInk [.type "ValueError", .type "Exception", .type "BaseException", .type "object"] "ValueError.__new__" = true
  kNoInk : PySem.W.keepIn K (.ref xa.NoInk) = true
  bNoInk : PySem.W.subIn K (.ref xa.NoInk) (.type "BaseException") = some true
  tNoInk : PySem.W.typeIn K (.ref xa.NoInk) = some (.type "type")
  gUnlike : mg "Unlike" = some (.ref xa.Unlike)
  xUnlike : PySem.W.excIn K xa.Unlike [.type "ValueError", .type "Exception", .type "BaseException", .type "object"] "ValueError.__new__" = true
  kUnlike : PySem.W.keepIn K (.ref xa.Unlike) = true
  bUnlike : PySem.W.subIn K (.ref xa.Unlike) (.type "BaseException") = some true
  tUnlike : PySem.W.typeIn K (.ref xa.Unlike) = some (.type "type")
  gInkError : mg "InkError" = some (.ref xa.InkError)
  xInkError : PySem.W.excIn K xa.InkError [.type "ValueError", .type "Exception", .type "BaseException", .type "object"] "ValueError.__new__" = true
  kInkError : PySem.W.keepIn K (.ref xa.InkError) = true
  bInkError : PySem.W.subIn K (.ref xa.InkError) (.type "BaseException") = some true
  tInkError : PySem.W.typeIn K (.ref xa.InkError) = some (.type "type")
abbrev s__law_error : Stmt := topS 73
theorem sc__law_error : FnScope ["call"] ["call"] (defScope s__law_error) := ⟨rfl, rfl, rfl, by decide +kernel, rfl, by decide +kernel, by decide +kernel⟩
theorem err_def {X : Cx} {xa : XA} {g : Addr} (XF : XC X.K X.mg xa) : ∀ cdg : Value, ErrDef X ["call"] "_law_error" (defScope s__law_error) g cdg (defBody s__law_error) "call" (clauses xa) := fun cdg => ⟨⟨_, _, _, _, _, _, _, _, _, rfl, fun s H => (.cons ⟨rfl, by decide, .inl XF.gBadPlan⟩ (fun _ _ _ _ _ _ _ => pss_one (ps_ret pe_str)) (.cons ⟨rfl, by decide, .inl XF.gBadPace⟩ (fun _ _ _ _ _ _ _ => pss_one (ps_ret pe_str)) (.cons ⟨rfl, by decide, .inl XF.gNoCell⟩ (fun _ _ _ _ _ _ _ => pss_one (ps_ret pe_str)) (.cons ⟨rfl, by decide, .inl XF.gBadTick⟩ (fun _ _ _ _ _ _ _ => pss_one (ps_ret pe_str)) (.cons ⟨rfl, by decide, .inl XF.gNoSign⟩ (fun _ _ _ _ _ _ _ => pss_one (ps_ret pe_str)) (.cons ⟨rfl, by decide, .inl XF.gNoInk⟩ (fun _ _ _ _ _ _ _ => pss_one (ps_ret pe_str)) (.cons ⟨rfl, by decide, .inl XF.gUnlike⟩ (fun _ _ _ _ _ _ _ => pss_one (ps_ret pe_str)) (.cons ⟨rfl, by decide, .inl XF.gInkError⟩ (fun _ _ _ _ _ _ _ => pss_one (ps_ret pe_str)) .nil))))))))⟩⟩
section
variable {P : Program} {w : World} {K : Fg} {mg : Str → Option Value} {base : Heap}
abbrev s__law_pick : Stmt := topS 71
theorem sc__law_pick : FnScope ["row", "things"] ["row", "things"] (defScope s__law_pick) := ⟨rfl, rfl, rfl, by decide +kernel, rfl, by decide +kernel, by decide +kernel⟩
theorem ok__law_pick {f : Addr} {fd : FuncData} (Fu : Fun K "_law_pick" "_law_pick" s__law_pick f fd) (B : Blt mg) {f__law_taken : Addr} {d__law_taken : FuncData} (D__law_taken : Df K mg "_law_taken" s__law_taken ["row", "many"] f__law_taken d__law_taken) (G__law_taken : FnOk P w K mg base CX0 1 f__law_taken d__law_taken ["row", "many"] (liftF K F__law_taken)) : FnOk P w K mg base CX0 2 f fd ["row", "things"] (liftF K F__law_pick) :=
  fd_ok F__law_pick Fu sc__law_pick len__law_pick fun cdv A outer s H E hr => ⟨rd__law_pick, (dss_one (ds_ret (de_ix (de_var 1) (df_call D__law_taken G__law_taken hr (das_cons (dv_row 0) (das_cons (dv_e (de_callB dc_len (by rfl) B.len (by decide +kernel) (da_cons (de_var 1) da_nil))) das_nil)))))), holds__law_pick⟩
abbrev s__law_plan : Stmt := topS 72
theorem sc__law_plan : FnScope ["row", "most", "wide", "cells", "inks", "stays", "writes", "turn", "low", "sign", "ink"] ["row", "most", "wide"] (defScope s__law_plan) := ⟨rfl, rfl, rfl, by decide +kernel, rfl, by decide +kernel, by decide +kernel⟩
theorem ok__law_plan {f : Addr} {fd : FuncData} (Fu : Fun K "_law_plan" "_law_plan" s__law_plan f fd) (B : Blt mg) {f__law_taken : Addr} {d__law_taken : FuncData} (D__law_taken : Df K mg "_law_taken" s__law_taken ["row", "many"] f__law_taken d__law_taken) (G__law_taken : FnOk P w K mg base CX0 1 f__law_taken d__law_taken ["row", "many"] (liftF K F__law_taken)) {f__law_pick : Addr} {d__law_pick : FuncData} (D__law_pick : Df K mg "_law_pick" s__law_pick ["row", "things"] f__law_pick d__law_pick) (G__law_pick : FnOk P w K mg base CX0 2 f__law_pick d__law_pick ["row", "things"] (liftF K F__law_pick)) : FnOk P w K mg base CX0 3 f fd ["row", "most", "wide"] (liftF K F__law_plan) :=
  fd_ok F__law_plan Fu sc__law_plan len__law_plan fun cdv A outer s H E hr => ⟨rd__law_plan, (dss_cons (ds_par 3 4 rfl sc__law_plan.nd (da_cons (de_op do_add de_int (df_call D__law_taken G__law_taken hr (das_cons (dv_row 0) (das_cons (dv_e de_int) das_nil)))) (da_cons (de_op do_add de_int (df_call D__law_taken G__law_taken hr (das_cons (dv_row 0) (das_cons (dv_e de_int) das_nil)))) da_nil)))
      (dss_cons (ds_set 5 sc__law_plan.nd (de_callT dc_tuple (by rfl) B.tuple (by decide +kernel) (da_cons (de_lc [("ink", 10)] rfl sc__law_plan.nd (di_range1 B.range (da_cons (de_var 4) da_nil)) (fun _ _ _ _ _ => (dg_name 10 sc__law_plan.nd)) (fun _ _ _ _ _ => dts_nil) (fun _ _ _ _ _ => (de_op do_add de_int (df_call D__law_taken G__law_taken hr (das_cons (dv_row 0) (das_cons (dv_e de_int) das_nil))))) (by exact (show blkC ["row", "most", "wide", "cells", "inks", "stays", "writes", "turn", "low", "sign", "ink"] (defScope s__law_plan) _ [("ink", 10)] = true by decide +kernel))) da_nil)))
      (dss_cons (ds_ownL 6 sc__law_plan.nd da_nil)
      (dss_cons (ds_for PassesOwn.never rfl (di_range1 B.range (da_cons (df_call D__law_taken G__law_taken hr (das_cons (dv_row 0) (das_cons (dv_e (de_op do_add (de_var 1) de_int)) das_nil))) da_nil)) (dg_name 7 sc__law_plan.nd) (dss_cons (ds_set 8 sc__law_plan.nd (df_call D__law_pick G__law_pick hr (das_cons (dv_row 0) (das_cons (dv_e (de_lst (da_cons de_int (da_cons de_int (da_cons de_int (da_cons de_int (da_cons de_int da_nil))))))) das_nil))))
      (dss_cons (ds_set 9 sc__law_plan.nd (df_call D__law_pick G__law_pick hr (das_cons (dv_row 0) (das_cons (dv_e (de_lst (da_cons de_str (da_cons de_str (da_cons de_str da_nil))))) das_nil))))
      (dss_one (ds_app 6 (de_tup (da_cons (df_call D__law_taken G__law_taken hr (das_cons (dv_row 0) (das_cons (dv_e (de_var 3)) das_nil))) (da_cons (de_var 9) (da_cons (df_call D__law_taken G__law_taken hr (das_cons (dv_row 0) (das_cons (dv_e (de_var 4)) das_nil))) (da_cons (de_var 8) (da_cons (de_op do_add (de_var 8) (df_call D__law_taken G__law_taken hr (das_cons (dv_row 0) (das_cons (dv_e (de_op do_add (de_var 2) de_int)) das_nil)))) da_nil)))))))))))
      (dss_one (ds_ret (de_tup (da_cons (de_var 3) (da_cons (de_var 5) (da_cons (de_callT dc_tuple (by rfl) B.tuple (by decide +kernel) (da_cons (de_var 6) da_nil)) da_nil)))))))))), holds__law_plan⟩
abbrev s_is_row : Stmt := topS 12
theorem sc_is_row : FnScope ["value", "least", "most"] ["value", "least", "most"] (defScope s_is_row) := ⟨rfl, rfl, rfl, by decide +kernel, rfl, by decide +kernel, by decide +kernel⟩
theorem ok_is_row {f : Addr} {fd : FuncData} (Fu : Fun K "is_row" "is_row" s_is_row f fd) (B : Blt mg) : FnOk P w K mg base CX0 1 f fd ["value", "least", "most"] (liftF K F_is_row) :=
  fd_ok F_is_row Fu sc_is_row len_is_row fun cdv A outer s H E hr => ⟨rd_is_row, (dss_one (ds_ret (de_and (de_isi kit_tup (de_var 0) B.isinstance B.tuple (by decide +kernel)) (de_one (de_chain do_le do_le (de_var 1) (de_callB dc_len (by rfl) B.len (by decide +kernel) (da_cons (de_var 0) da_nil)) (de_var 2)))))), holds_is_row⟩
abbrev s_is_whole : Stmt := topS 11
theorem sc_is_whole : FnScope ["value", "low", "high"] ["value", "low", "high"] (defScope s_is_whole) := ⟨rfl, rfl, rfl, by decide +kernel, rfl, by decide +kernel, by decide +kernel⟩
theorem ok_is_whole {f : Addr} {fd : FuncData} (Fu : Fun K "is_whole" "is_whole" s_is_whole f fd) (B : Blt mg) : FnOk P w K mg base CX0 1 f fd ["value", "low", "high"] (liftF K F_is_whole) :=
  fd_ok F_is_whole Fu sc_is_whole len_is_whole fun cdv A outer s H E hr => ⟨rd_is_whole, (dss_one (ds_ret (de_and (de_isi kit_int (de_var 0) B.isinstance B.int (by decide +kernel)) (de_and (de_not (de_isi kit_bool (de_var 0) B.isinstance B.bool (by decide +kernel))) (de_one (de_chain do_le do_le (de_var 1) (de_var 0) (de_var 2))))))), holds_is_whole⟩
abbrev s_is_span : Stmt := topS 14
theorem sc_is_span : FnScope ["low", "high", "most"] ["low", "high", "most"] (defScope s_is_span) := ⟨rfl, rfl, rfl, by decide +kernel, rfl, by decide +kernel, by decide +kernel⟩
theorem ok_is_span {f : Addr} {fd : FuncData} (Fu : Fun K "is_span" "is_span" s_is_span f fd) (B : Blt mg) {f_is_whole : Addr} {d_is_whole : FuncData} (D_is_whole : Df K mg "is_whole" s_is_whole ["value", "low", "high"] f_is_whole d_is_whole) (G_is_whole : FnOk P w K mg base CX0 1 f_is_whole d_is_whole ["value", "low", "high"] (liftF K F_is_whole)) : FnOk P w K mg base CX0 2 f fd ["low", "high", "most"] (liftF K F_is_span) :=
  fd_ok F_is_span Fu sc_is_span len_is_span fun cdv A outer s H E hr => ⟨rd_is_span, (dss_one (ds_ret (de_and (df_call D_is_whole G_is_whole hr (das_cons (dv_e (de_var 0)) (das_cons (dv_e de_int) (das_cons (dv_e (de_var 2)) das_nil)))) (de_one (df_call D_is_whole G_is_whole hr (das_cons (dv_e (de_var 1)) (das_cons (dv_e (de_var 0)) (das_cons (dv_e (de_var 2)) das_nil)))))))), holds_is_span⟩
abbrev s_is_letter : Stmt := topS 13
theorem sc_is_letter : FnScope ["value"] ["value"] (defScope s_is_letter) := ⟨rfl, rfl, rfl, by decide +kernel, rfl, by decide +kernel, by decide +kernel⟩
theorem ok_is_letter {f : Addr} {fd : FuncData} (Fu : Fun K "is_letter" "is_letter" s_is_letter f fd) (B : Blt mg) : FnOk P w K mg base CX0 1 f fd ["value"] (liftF K F_is_letter) :=
  fd_ok F_is_letter Fu sc_is_letter len_is_letter fun cdv A outer s H E hr => ⟨rd_is_letter, (dss_one (ds_ret (de_and (de_isi kit_str (de_var 0) B.isinstance B.str (by decide +kernel)) (de_and (de_cmp (do_eq hr.units) (de_callB dc_len (by rfl) B.len (by decide +kernel) (da_cons (de_var 0) da_nil)) de_int) (de_one (de_chain do_le do_le de_str (de_var 0) de_str)))))), holds_is_letter⟩
abbrev s_is_write : Stmt := topS 19
theorem sc_is_write : FnScope ["value", "cells", "inks", "cell", "sign", "ink", "low", "high"] ["value", "cells", "inks"] (defScope s_is_write) := ⟨rfl, rfl, rfl, by decide +kernel, rfl, by decide +kernel, by decide +kernel⟩
theorem ok_is_write {f : Addr} {fd : FuncData} (Fu : Fun K "is_write" "is_write" s_is_write f fd) (B : Blt mg) {f_is_span : Addr} {d_is_span : FuncData} (D_is_span : Df K mg "is_span" s_is_span ["low", "high", "most"] f_is_span d_is_span) (G_is_span : FnOk P w K mg base CX0 2 f_is_span d_is_span ["low", "high", "most"] (liftF K F_is_span)) {f_is_row : Addr} {d_is_row : FuncData} (D_is_row : Df K mg "is_row" s_is_row ["value", "least", "most"] f_is_row d_is_row) (G_is_row : FnOk P w K mg base CX0 1 f_is_row d_is_row ["value", "least", "most"] (liftF K F_is_row)) {f_is_whole : Addr} {d_is_whole : FuncData} (D_is_whole : Df K mg "is_whole" s_is_whole ["value", "low", "high"] f_is_whole d_is_whole) (G_is_whole : FnOk P w K mg base CX0 1 f_is_whole d_is_whole ["value", "low", "high"] (liftF K F_is_whole)) {f_is_letter : Addr} {d_is_letter : FuncData} (D_is_letter : Df K mg "is_letter" s_is_letter ["value"] f_is_letter d_is_letter) (G_is_letter : FnOk P w K mg base CX0 1 f_is_letter d_is_letter ["value"] (liftF K F_is_letter)) : FnOk P w K mg base CX0 3 f fd ["value", "cells", "inks"] (liftF K F_is_write) :=
  fd_ok F_is_write Fu sc_is_write len_is_write fun cdv A outer s H E hr => ⟨rd_is_write, (dss_cons (ds_if (dt_not (dt_truth (df_call D_is_row G_is_row hr (das_cons (dv_e (de_var 0)) (das_cons (dv_e de_int) (das_cons (dv_e de_int) das_nil)))))) (dss_one (ds_ret de_bl)) dss_nil)
      (dss_cons (ds_asg (de_var 0) (dg_tup rfl (dgs_cons (dg_name 3 sc_is_write.nd) (dgs_cons (dg_name 4 sc_is_write.nd) (dgs_cons (dg_name 5 sc_is_write.nd) (dgs_cons (dg_name 6 sc_is_write.nd) (dgs_cons (dg_name 7 sc_is_write.nd) dgs_nil)))))))
      (dss_cons (ds_if (dw_pt (dw_or (dt_not (dt_truth (df_call D_is_whole G_is_whole hr (das_cons (dv_e (de_var 3)) (das_cons (dv_e de_int) (das_cons (dv_e (de_op do_sub (de_var 1) de_int)) das_nil)))))) (dw_or (dt_not (dt_truth (df_call D_is_letter G_is_letter hr (das_cons (dv_e (de_var 4)) das_nil)))) (dw_or1 (dt_not (dt_truth (df_call D_is_whole G_is_whole hr (das_cons (dv_e (de_var 5)) (das_cons (dv_e de_int) (das_cons (dv_e (de_op do_sub (de_var 2) de_int)) das_nil)))))))))) (dss_one (ds_ret de_bl)) dss_nil)
      (dss_one (ds_ret (df_call D_is_span G_is_span hr (das_cons (dv_e (de_var 6)) (das_cons (dv_e (de_var 7)) (das_cons (dv_e de_int) das_nil))))))))), holds_is_write⟩
abbrev s_is_plan : Stmt := topS 18
theorem sc_is_plan : FnScope ["value", "cells", "stays", "writes", "write", "stay"] ["value"] (defScope s_is_plan) := ⟨rfl, rfl, rfl, by decide +kernel, rfl, by decide +kernel, by decide +kernel⟩
theorem ok_is_plan {f : Addr} {fd : FuncData} (Fu : Fun K "is_plan" "is_plan" s_is_plan f fd) (B : Blt mg) {f_is_row : Addr} {d_is_row : FuncData} (D_is_row : Df K mg "is_row" s_is_row ["value", "least", "most"] f_is_row d_is_row) (G_is_row : FnOk P w K mg base CX0 1 f_is_row d_is_row ["value", "least", "most"] (liftF K F_is_row)) {f_is_whole : Addr} {d_is_whole : FuncData} (D_is_whole : Df K mg "is_whole" s_is_whole ["value", "low", "high"] f_is_whole d_is_whole) (G_is_whole : FnOk P w K mg base CX0 1 f_is_whole d_is_whole ["value", "low", "high"] (liftF K F_is_whole)) {f_is_write : Addr} {d_is_write : FuncData} (D_is_write : Df K mg "is_write" s_is_write ["value", "cells", "inks"] f_is_write d_is_write) (G_is_write : FnOk P w K mg base CX0 3 f_is_write d_is_write ["value", "cells", "inks"] (liftF K F_is_write)) : FnOk P w K mg base CX0 4 f fd ["value"] (liftF K F_is_plan) :=
  fd_ok F_is_plan Fu sc_is_plan len_is_plan fun cdv A outer s H E hr => ⟨rd_is_plan, (dss_cons (ds_if (dt_not (dt_truth (df_call D_is_row G_is_row hr (das_cons (dv_e (de_var 0)) (das_cons (dv_e de_int) (das_cons (dv_e de_int) das_nil)))))) (dss_one (ds_ret de_bl)) dss_nil)
      (dss_cons (ds_asg (de_var 0) (dg_tup rfl (dgs_cons (dg_name 1 sc_is_plan.nd) (dgs_cons (dg_name 2 sc_is_plan.nd) (dgs_cons (dg_name 3 sc_is_plan.nd) dgs_nil)))))
      (dss_cons (ds_if (dw_pt (dw_or (dt_not (dt_truth (df_call D_is_whole G_is_whole hr (das_cons (dv_e (de_var 1)) (das_cons (dv_e de_int) (das_cons (dv_e de_int) das_nil)))))) (dw_or (dt_not (dt_truth (df_call D_is_row G_is_row hr (das_cons (dv_e (de_var 2)) (das_cons (dv_e de_int) (das_cons (dv_e de_int) das_nil)))))) (dw_or1 (dt_not (dt_truth (df_call D_is_row G_is_row hr (das_cons (dv_e (de_var 3)) (das_cons (dv_e de_int) (das_cons (dv_e de_int) das_nil)))))))))) (dss_one (ds_ret de_bl)) dss_nil)
      (dss_cons (ds_if (dt_not (dt_truth (de_callB (dc_all rfl) (by rfl) B.all (by decide +kernel) (da_cons (de_lc [("stay", 5)] rfl sc_is_plan.nd (di_any (de_var 2)) (fun _ _ _ _ _ => (dg_name 5 sc_is_plan.nd)) (fun _ _ _ _ _ => dts_nil) (fun _ _ _ _ _ => (df_call D_is_whole G_is_whole hr (das_cons (dv_e (de_var 5)) (das_cons (dv_e de_int) (das_cons (dv_e de_int) das_nil))))) (by exact (show blkC ["value", "cells", "stays", "writes", "write", "stay"] (defScope s_is_plan) _ [("stay", 5)] = true by decide +kernel))) da_nil)))) (dss_one (ds_ret de_bl)) dss_nil)
      (dss_one (ds_ret (de_callB (dc_all rfl) (by rfl) B.all (by decide +kernel) (da_cons (de_lc [("write", 4)] rfl sc_is_plan.nd (di_any (de_var 3)) (fun _ _ _ _ _ => (dg_name 4 sc_is_plan.nd)) (fun _ _ _ _ _ => dts_nil) (fun _ _ _ _ _ => (df_call D_is_write G_is_write hr (das_cons (dv_e (de_var 4)) (das_cons (dv_e (de_var 1)) (das_cons (dv_e (de_callB dc_len (by rfl) B.len (by decide +kernel) (da_cons (de_var 2) da_nil))) das_nil))))) (by exact (show blkC ["value", "cells", "stays", "writes", "write", "stay"] (defScope s_is_plan) _ [("write", 4)] = true by decide +kernel))) da_nil)))))))), holds_is_plan⟩
abbrev s_check_plan : Stmt := topS 23
theorem sc_check_plan : FnScope ["plan"] ["plan"] (defScope s_check_plan) := ⟨rfl, rfl, rfl, by decide +kernel, rfl, by decide +kernel, by decide +kernel⟩
theorem okx_check_plan {f : Addr} {fd : FuncData} (Fu : Fun K "check_plan" "check_plan" s_check_plan f fd) (B : Blt mg) {xa : XA} (XF : XC K mg xa) {f_is_plan : Addr} {d_is_plan : FuncData} (D_is_plan : Df K mg "is_plan" s_is_plan ["value"] f_is_plan d_is_plan) (G_is_plan : FnOk P w K mg base CX0 4 f_is_plan d_is_plan ["value"] (liftF K F_is_plan)) : FnOk P w K mg base (L2.CX P w) 5 f fd ["plan"] (liftX K (FX_check_plan xa)) :=
  fd_okX (FX_check_plan xa) Fu sc_check_plan (lenx_check_plan xa) fun cdv A outer s H E hr tk => ⟨rdx_check_plan xa, (dssx_one (dsx_if (dt_not (dt_truth (df_call D_is_plan G_is_plan hr (das_cons (dv_e (de_var 0)) das_nil)))) (dssx_one (dsx_raise rfl tk (pmk_own PySem.F.excBase_ValueError XF.xBadPlan XF.gBadPlan XF.kBadPlan (raises_own XF.bBadPlan XF.tBadPlan) rfl))) dssx_nil)), holdsx_check_plan xa⟩
abbrev s_are_rests : Stmt := topS 15
theorem sc_are_rests : FnScope ["value", "bounds", "rest", "low", "high"] ["value", "bounds"] (defScope s_are_rests) := ⟨rfl, rfl, rfl, by decide +kernel, rfl, by decide +kernel, by decide +kernel⟩
theorem ok_are_rests {f : Addr} {fd : FuncData} (Fu : Fun K "are_rests" "are_rests" s_are_rests f fd) (B : Blt mg) {f_is_row : Addr} {d_is_row : FuncData} (D_is_row : Df K mg "is_row" s_is_row ["value", "least", "most"] f_is_row d_is_row) (G_is_row : FnOk P w K mg base CX0 1 f_is_row d_is_row ["value", "least", "most"] (liftF K F_is_row)) {f_is_whole : Addr} {d_is_whole : FuncData} (D_is_whole : Df K mg "is_whole" s_is_whole ["value", "low", "high"] f_is_whole d_is_whole) (G_is_whole : FnOk P w K mg base CX0 1 f_is_whole d_is_whole ["value", "low", "high"] (liftF K F_is_whole)) : FnOk P w K mg base CX0 2 f fd ["value", "bounds"] (liftF K F_are_rests) :=
  fd_ok F_are_rests Fu sc_are_rests len_are_rests fun cdv A outer s H E hr => ⟨rd_are_rests, (dss_cons (ds_if (dt_not (dt_truth (df_call D_is_row G_is_row hr (das_cons (dv_e (de_var 0)) (das_cons (dv_e (de_callB dc_len (by rfl) B.len (by decide +kernel) (da_cons (de_var 1) da_nil))) (das_cons (dv_e (de_callB dc_len (by rfl) B.len (by decide +kernel) (da_cons (de_var 1) da_nil))) das_nil)))))) (dss_one (ds_ret de_bl)) dss_nil)
      (dss_one (ds_ret (de_callB (dc_all rfl) (by rfl) B.all (by decide +kernel) (da_cons (de_lc [("rest", 2), ("low", 3), ("high", 4)] rfl sc_are_rests.nd (di_zip B.zip (da_cons (de_var 0) (da_cons (de_var 1) da_nil))) (fun _ _ _ _ _ => (dg_tup rfl (dgs_cons (dg_name 2 sc_are_rests.nd) (dgs_cons (dg_tup rfl (dgs_cons (dg_name 3 sc_are_rests.nd) (dgs_cons (dg_name 4 sc_are_rests.nd) dgs_nil))) dgs_nil)))) (fun _ _ _ _ _ => dts_nil) (fun _ _ _ _ _ => (df_call D_is_whole G_is_whole hr (das_cons (dv_e (de_var 2)) (das_cons (dv_e (de_var 3)) (das_cons (dv_e (de_var 4)) das_nil))))) (by exact (show blkC ["value", "bounds", "rest", "low", "high"] (defScope s_are_rests) _ [("rest", 2), ("low", 3), ("high", 4)] = true by decide +kernel))) da_nil))))), holds_are_rests⟩
abbrev s_rest_bounds : Stmt := topS 22
theorem sc_rest_bounds : FnScope ["plan", "write"] ["plan"] (defScope s_rest_bounds) := ⟨rfl, rfl, rfl, by decide +kernel, rfl, by decide +kernel, by decide +kernel⟩
theorem ok_rest_bounds {f : Addr} {fd : FuncData} (Fu : Fun K "rest_bounds" "rest_bounds" s_rest_bounds f fd) (B : Blt mg) : FnOk P w K mg base CX0 1 f fd ["plan"] (liftF K F_rest_bounds) :=
  fd_ok F_rest_bounds Fu sc_rest_bounds len_rest_bounds fun cdv A outer s H E hr => ⟨rd_rest_bounds, (dss_one (ds_ret (de_lc [("write", 1)] rfl sc_rest_bounds.nd (di_any (de_ix (de_var 0) de_int)) (fun _ _ _ _ _ => (dg_name 1 sc_rest_bounds.nd)) (fun _ _ _ _ _ => dts_nil) (fun _ _ _ _ _ => (de_tup (da_cons (de_ix (de_var 1) de_int) (da_cons (de_ix (de_var 1) de_int) da_nil)))) (by exact (show blkC ["plan", "write"] (defScope s_rest_bounds) _ [("write", 1)] = true by decide +kernel))))), holds_rest_bounds⟩
abbrev s_is_pace : Stmt := topS 20
theorem sc_is_pace : FnScope ["plan", "value"] ["plan", "value"] (defScope s_is_pace) := ⟨rfl, rfl, rfl, by decide +kernel, rfl, by decide +kernel, by decide +kernel⟩
theorem ok_is_pace {f : Addr} {fd : FuncData} (Fu : Fun K "is_pace" "is_pace" s_is_pace f fd) (B : Blt mg) {f_are_rests : Addr} {d_are_rests : FuncData} (D_are_rests : Df K mg "are_rests" s_are_rests ["value", "bounds"] f_are_rests d_are_rests) (G_are_rests : FnOk P w K mg base CX0 2 f_are_rests d_are_rests ["value", "bounds"] (liftF K F_are_rests)) {f_rest_bounds : Addr} {d_rest_bounds : FuncData} (D_rest_bounds : Df K mg "rest_bounds" s_rest_bounds ["plan"] f_rest_bounds d_rest_bounds) (G_rest_bounds : FnOk P w K mg base CX0 1 f_rest_bounds d_rest_bounds ["plan"] (liftF K F_rest_bounds)) : FnOk P w K mg base CX0 3 f fd ["plan", "value"] (liftF K F_is_pace) :=
  fd_ok F_is_pace Fu sc_is_pace len_is_pace fun cdv A outer s H E hr => ⟨rd_is_pace, (dss_one (ds_ret (df_call D_are_rests G_are_rests hr (das_cons (dv_e (de_var 1)) (das_cons (dv_e (df_call D_rest_bounds G_rest_bounds hr (das_cons (dv_e (de_var 0)) das_nil))) das_nil))))), holds_is_pace⟩
abbrev s_check_pace : Stmt := topS 24
theorem sc_check_pace : FnScope ["plan", "pace"] ["plan", "pace"] (defScope s_check_pace) := ⟨rfl, rfl, rfl, by decide +kernel, rfl, by decide +kernel, by decide +kernel⟩
theorem okx_check_pace {f : Addr} {fd : FuncData} (Fu : Fun K "check_pace" "check_pace" s_check_pace f fd) (B : Blt mg) {xa : XA} (XF : XC K mg xa) {f_is_pace : Addr} {d_is_pace : FuncData} (D_is_pace : Df K mg "is_pace" s_is_pace ["plan", "value"] f_is_pace d_is_pace) (G_is_pace : FnOk P w K mg base CX0 3 f_is_pace d_is_pace ["plan", "value"] (liftF K F_is_pace)) : FnOk P w K mg base (L2.CX P w) 4 f fd ["plan", "pace"] (liftX K (FX_check_pace xa)) :=
  fd_okX (FX_check_pace xa) Fu sc_check_pace (lenx_check_pace xa) fun cdv A outer s H E hr tk => ⟨rdx_check_pace xa, (dssx_one (dsx_if (dt_not (dt_truth (df_call D_is_pace G_is_pace hr (das_cons (dv_e (de_var 0)) (das_cons (dv_e (de_var 1)) das_nil))))) (dssx_one (dsx_raise rfl tk (pmk_own PySem.F.excBase_ValueError XF.xBadPace XF.gBadPace XF.kBadPace (raises_own XF.bBadPace XF.tBadPace) rfl))) dssx_nil)), holdsx_check_pace xa⟩
abbrev s_summed : Stmt := topS 27
theorem sc_summed : FnScope ["start", "rests", "found", "tick", "rest"] ["start", "rests"] (defScope s_summed) := ⟨rfl, rfl, rfl, by decide +kernel, rfl, by decide +kernel, by decide +kernel⟩
theorem ok_summed {f : Addr} {fd : FuncData} (Fu : Fun K "summed" "summed" s_summed f fd) (B : Blt mg) : FnOk P w K mg base CX0 1 f fd ["start", "rests"] (liftF K F_summed) :=
  fd_ok F_summed Fu sc_summed len_summed fun cdv A outer s H E hr => ⟨rd_summed, (dss_cons (ds_ownL 2 sc_summed.nd da_nil)
      (dss_cons (ds_set 3 sc_summed.nd (de_var 0))
      (dss_cons (ds_for PassesOwn.never rfl (di_any (de_var 1)) (dg_name 4 sc_summed.nd) (dss_cons (ds_aug 3 do_iadd sc_summed.nd (de_var 4))
      (dss_one (ds_app 2 (de_var 3)))))
      (dss_one (ds_ret (de_callT dc_tuple (by rfl) B.tuple (by decide +kernel) (da_cons (de_var 2) da_nil))))))), holds_summed⟩
abbrev s_ticks : Stmt := topS 29
theorem sc_ticks : FnScope ["plan", "pace"] ["plan", "pace"] (defScope s_ticks) := ⟨rfl, rfl, rfl, by decide +kernel, rfl, by decide +kernel, by decide +kernel⟩
theorem okx_ticks {f : Addr} {fd : FuncData} (Fu : Fun K "ticks" "ticks" s_ticks f fd) (B : Blt mg) {xa : XA} (XF : XC K mg xa) {f_check_plan : Addr} {d_check_plan : FuncData} (D_check_plan : Df K mg "check_plan" s_check_plan ["plan"] f_check_plan d_check_plan) (GX_check_plan : FnOk P w K mg base (L2.CX P w) 5 f_check_plan d_check_plan ["plan"] (liftX K (FX_check_plan xa))) {f_check_pace : Addr} {d_check_pace : FuncData} (D_check_pace : Df K mg "check_pace" s_check_pace ["plan", "pace"] f_check_pace d_check_pace) (GX_check_pace : FnOk P w K mg base (L2.CX P w) 4 f_check_pace d_check_pace ["plan", "pace"] (liftX K (FX_check_pace xa))) : FnOk P w K mg base (L2.CX P w) 6 f fd ["plan", "pace"] (liftX K (FX_ticks xa)) :=
  fd_okX (FX_ticks xa) Fu sc_ticks (lenx_ticks xa) fun cdv A outer s H E hr tk => ⟨rdx_ticks xa, (dssx_cons (dsx_expr (dex_call tk D_check_plan GX_check_plan hr (das_cons (dv_e (de_var 0)) das_nil)))
      (dssx_cons (dsx_expr (dex_call tk D_check_pace GX_check_pace hr (das_cons (dv_e (de_var 0)) (das_cons (dv_e (de_var 1)) das_nil))))
      (dssx_of dss_never))), holdsx_ticks xa⟩
abbrev s_check_cell : Stmt := topS 25
theorem sc_check_cell : FnScope ["plan", "cell"] ["plan", "cell"] (defScope s_check_cell) := ⟨rfl, rfl, rfl, by decide +kernel, rfl, by decide +kernel, by decide +kernel⟩
theorem okx_check_cell {f : Addr} {fd : FuncData} (Fu : Fun K "check_cell" "check_cell" s_check_cell f fd) (B : Blt mg) {xa : XA} (XF : XC K mg xa) {f_is_whole : Addr} {d_is_whole : FuncData} (D_is_whole : Df K mg "is_whole" s_is_whole ["value", "low", "high"] f_is_whole d_is_whole) (G_is_whole : FnOk P w K mg base CX0 1 f_is_whole d_is_whole ["value", "low", "high"] (liftF K F_is_whole)) : FnOk P w K mg base (L2.CX P w) 2 f fd ["plan", "cell"] (liftX K (FX_check_cell xa)) :=
  fd_okX (FX_check_cell xa) Fu sc_check_cell (lenx_check_cell xa) fun cdv A outer s H E hr tk => ⟨rdx_check_cell xa, (dssx_one (dsx_if (dt_not (dt_truth (df_call D_is_whole G_is_whole hr (das_cons (dv_e (de_var 1)) (das_cons (dv_e de_int) (das_cons (dv_e (de_op do_sub (de_ix (de_var 0) de_int) de_int)) das_nil)))))) (dssx_one (dsx_raise rfl tk (pmk_own PySem.F.excBase_ValueError XF.xNoCell XF.gNoCell XF.kNoCell (raises_own XF.bNoCell XF.tNoCell) rfl))) dssx_nil)), holdsx_check_cell xa⟩
abbrev s_check_tick : Stmt := topS 26
theorem sc_check_tick : FnScope ["tick", "most"] ["tick", "most"] (defScope s_check_tick) := ⟨rfl, rfl, rfl, by decide +kernel, rfl, by decide +kernel, by decide +kernel⟩
theorem okx_check_tick {f : Addr} {fd : FuncData} (Fu : Fun K "check_tick" "check_tick" s_check_tick f fd) (B : Blt mg) {xa : XA} (XF : XC K mg xa) {f_is_whole : Addr} {d_is_whole : FuncData} (D_is_whole : Df K mg "is_whole" s_is_whole ["value", "low", "high"] f_is_whole d_is_whole) (G_is_whole : FnOk P w K mg base CX0 1 f_is_whole d_is_whole ["value", "low", "high"] (liftF K F_is_whole)) : FnOk P w K mg base (L2.CX P w) 2 f fd ["tick", "most"] (liftX K (FX_check_tick xa)) :=
  fd_okX (FX_check_tick xa) Fu sc_check_tick (lenx_check_tick xa) fun cdv A outer s H E hr tk => ⟨rdx_check_tick xa, (dssx_one (dsx_if (dt_not (dt_truth (df_call D_is_whole G_is_whole hr (das_cons (dv_e (de_var 0)) (das_cons (dv_e de_int) (das_cons (dv_e (de_var 1)) das_nil)))))) (dssx_one (dsx_raiseF rfl tk PySem.F.excBase_ValueError XF.xBadTick XF.gBadTick XF.kBadTick (raises_own XF.bBadTick XF.tBadTick) (de_var 1))) dssx_nil)), holdsx_check_tick xa⟩
abbrev s_sign_at : Stmt := topS 28
theorem sc_sign_at : FnScope ["plan", "times", "cell", "tick", "_", "stays", "writes", "shown", "time", "write"] ["plan", "times", "cell", "tick"] (defScope s_sign_at) := ⟨rfl, rfl, rfl, by decide +kernel, rfl, by decide +kernel, by decide +kernel⟩
theorem ok_sign_at {f : Addr} {fd : FuncData} (Fu : Fun K "sign_at" "sign_at" s_sign_at f fd) (B : Blt mg) (m_BARE : ∃ t, mg "BARE" = some (.str "." t)) : FnOk P w K mg base CX0 1 f fd ["plan", "times", "cell", "tick"] (liftF K F_sign_at) :=
  fd_ok F_sign_at Fu sc_sign_at len_sign_at fun cdv A outer s H E hr => ⟨rd_sign_at, (dss_cons (ds_asg (de_var 0) (dg_tup rfl (dgs_cons (dg_name 4 sc_sign_at.nd) (dgs_cons (dg_name 5 sc_sign_at.nd) (dgs_cons (dg_name 6 sc_sign_at.nd) dgs_nil)))))
      (dss_cons (ds_set 7 sc_sign_at.nd (de_globS (m_BARE.choose_spec)))
      (dss_cons (ds_for PassesOwn.never rfl (di_zip B.zip (da_cons (de_var 1) (da_cons (de_var 6) da_nil))) (dg_tup rfl (dgs_cons (dg_name 8 sc_sign_at.nd) (dgs_cons (dg_name 9 sc_sign_at.nd) dgs_nil))) (dss_one (ds_if (dw_pt (dw_and (dt_cmp (do_eq hr.units) (de_ix (de_var 9) de_int) (de_var 2)) (dw_and1 (dt_chain do_le do_lt (de_var 8) (de_var 3) (de_op do_add (de_var 8) (de_ix (de_var 5) (de_ix (de_var 9) de_int))))))) (dss_one (ds_set 7 sc_sign_at.nd (de_ix (de_var 9) de_int))) dss_nil)))
      (dss_one (ds_ret (de_var 7)))))), holds_sign_at⟩
abbrev s_seen : Stmt := topS 30
theorem sc_seen : FnScope ["plan", "pace", "cell", "tick"] ["plan", "pace", "cell", "tick"] (defScope s_seen) := ⟨rfl, rfl, rfl, by decide +kernel, rfl, by decide +kernel, by decide +kernel⟩
theorem okx_seen {f : Addr} {fd : FuncData} (Fu : Fun K "seen" "seen" s_seen f fd) (B : Blt mg) {xa : XA} (XF : XC K mg xa) {f_sign_at : Addr} {d_sign_at : FuncData} (D_sign_at : Df K mg "sign_at" s_sign_at ["plan", "times", "cell", "tick"] f_sign_at d_sign_at) (G_sign_at : FnOk P w K mg base CX0 1 f_sign_at d_sign_at ["plan", "times", "cell", "tick"] (liftF K F_sign_at)) {f_summed : Addr} {d_summed : FuncData} (D_summed : Df K mg "summed" s_summed ["start", "rests"] f_summed d_summed) (G_summed : FnOk P w K mg base CX0 1 f_summed d_summed ["start", "rests"] (liftF K F_summed)) {f_check_plan : Addr} {d_check_plan : FuncData} (D_check_plan : Df K mg "check_plan" s_check_plan ["plan"] f_check_plan d_check_plan) (GX_check_plan : FnOk P w K mg base (L2.CX P w) 5 f_check_plan d_check_plan ["plan"] (liftX K (FX_check_plan xa))) {f_check_pace : Addr} {d_check_pace : FuncData} (D_check_pace : Df K mg "check_pace" s_check_pace ["plan", "pace"] f_check_pace d_check_pace) (GX_check_pace : FnOk P w K mg base (L2.CX P w) 4 f_check_pace d_check_pace ["plan", "pace"] (liftX K (FX_check_pace xa))) {f_check_cell : Addr} {d_check_cell : FuncData} (D_check_cell : Df K mg "check_cell" s_check_cell ["plan", "cell"] f_check_cell d_check_cell) (GX_check_cell : FnOk P w K mg base (L2.CX P w) 2 f_check_cell d_check_cell ["plan", "cell"] (liftX K (FX_check_cell xa))) {f_check_tick : Addr} {d_check_tick : FuncData} (D_check_tick : Df K mg "check_tick" s_check_tick ["tick", "most"] f_check_tick d_check_tick) (GX_check_tick : FnOk P w K mg base (L2.CX P w) 2 f_check_tick d_check_tick ["tick", "most"] (liftX K (FX_check_tick xa))) : FnOk P w K mg base (L2.CX P w) 6 f fd ["plan", "pace", "cell", "tick"] (liftX K (FX_seen xa)) :=
  fd_okX (FX_seen xa) Fu sc_seen (lenx_seen xa) fun cdv A outer s H E hr tk => ⟨rdx_seen xa, (dssx_cons (dsx_expr (dex_call tk D_check_plan GX_check_plan hr (das_cons (dv_e (de_var 0)) das_nil)))
      (dssx_cons (dsx_expr (dex_call tk D_check_pace GX_check_pace hr (das_cons (dv_e (de_var 0)) (das_cons (dv_e (de_var 1)) das_nil))))
      (dssx_cons (dsx_expr (dex_call tk D_check_cell GX_check_cell hr (das_cons (dv_e (de_var 0)) (das_cons (dv_e (de_var 2)) das_nil))))
      (dssx_cons (dsx_expr (dex_call tk D_check_tick GX_check_tick hr (das_cons (dv_e (de_var 3)) (das_cons (dv_e de_int) das_nil))))
      (dssx_one (dsx_of (ds_ret (df_call D_sign_at G_sign_at hr (das_cons (dv_e (de_var 0)) (das_cons (dv_e (df_call D_summed G_summed hr (das_cons (dv_e de_int) (das_cons (dv_e (de_var 1)) das_nil)))) (das_cons (dv_e (de_var 2)) (das_cons (dv_e (de_var 3)) das_nil)))))))))))), holdsx_seen xa⟩
abbrev s_board : Stmt := topS 31
theorem sc_board : FnScope ["plan", "pace", "tick", "times", "cell"] ["plan", "pace", "tick"] (defScope s_board) := ⟨rfl, rfl, rfl, by decide +kernel, rfl, by decide +kernel, by decide +kernel⟩
theorem okx_board {f : Addr} {fd : FuncData} (Fu : Fun K "board" "board" s_board f fd) (B : Blt mg) {xa : XA} (XF : XC K mg xa) {f_check_plan : Addr} {d_check_plan : FuncData} (D_check_plan : Df K mg "check_plan" s_check_plan ["plan"] f_check_plan d_check_plan) (GX_check_plan : FnOk P w K mg base (L2.CX P w) 5 f_check_plan d_check_plan ["plan"] (liftX K (FX_check_plan xa))) {f_check_pace : Addr} {d_check_pace : FuncData} (D_check_pace : Df K mg "check_pace" s_check_pace ["plan", "pace"] f_check_pace d_check_pace) (GX_check_pace : FnOk P w K mg base (L2.CX P w) 4 f_check_pace d_check_pace ["plan", "pace"] (liftX K (FX_check_pace xa))) {f_check_tick : Addr} {d_check_tick : FuncData} (D_check_tick : Df K mg "check_tick" s_check_tick ["tick", "most"] f_check_tick d_check_tick) (GX_check_tick : FnOk P w K mg base (L2.CX P w) 2 f_check_tick d_check_tick ["tick", "most"] (liftX K (FX_check_tick xa))) : FnOk P w K mg base (L2.CX P w) 6 f fd ["plan", "pace", "tick"] (liftX K (FX_board xa)) :=
  fd_okX (FX_board xa) Fu sc_board (lenx_board xa) fun cdv A outer s H E hr tk => ⟨rdx_board xa, (dssx_cons (dsx_expr (dex_call tk D_check_plan GX_check_plan hr (das_cons (dv_e (de_var 0)) das_nil)))
      (dssx_cons (dsx_expr (dex_call tk D_check_pace GX_check_pace hr (das_cons (dv_e (de_var 0)) (das_cons (dv_e (de_var 1)) das_nil))))
      (dssx_cons (dsx_expr (dex_call tk D_check_tick GX_check_tick hr (das_cons (dv_e (de_var 2)) (das_cons (dv_e de_int) das_nil))))
      (dssx_of dss_never)))), holdsx_board xa⟩
abbrev s_story : Stmt := topS 32
theorem sc_story : FnScope ["plan", "pace", "cell", "last", "times", "tick"] ["plan", "pace", "cell", "last"] (defScope s_story) := ⟨rfl, rfl, rfl, by decide +kernel, rfl, by decide +kernel, by decide +kernel⟩
theorem okx_story {f : Addr} {fd : FuncData} (Fu : Fun K "story" "story" s_story f fd) (B : Blt mg) {xa : XA} (XF : XC K mg xa) {f_check_plan : Addr} {d_check_plan : FuncData} (D_check_plan : Df K mg "check_plan" s_check_plan ["plan"] f_check_plan d_check_plan) (GX_check_plan : FnOk P w K mg base (L2.CX P w) 5 f_check_plan d_check_plan ["plan"] (liftX K (FX_check_plan xa))) {f_check_pace : Addr} {d_check_pace : FuncData} (D_check_pace : Df K mg "check_pace" s_check_pace ["plan", "pace"] f_check_pace d_check_pace) (GX_check_pace : FnOk P w K mg base (L2.CX P w) 4 f_check_pace d_check_pace ["plan", "pace"] (liftX K (FX_check_pace xa))) {f_check_cell : Addr} {d_check_cell : FuncData} (D_check_cell : Df K mg "check_cell" s_check_cell ["plan", "cell"] f_check_cell d_check_cell) (GX_check_cell : FnOk P w K mg base (L2.CX P w) 2 f_check_cell d_check_cell ["plan", "cell"] (liftX K (FX_check_cell xa))) {f_check_tick : Addr} {d_check_tick : FuncData} (D_check_tick : Df K mg "check_tick" s_check_tick ["tick", "most"] f_check_tick d_check_tick) (GX_check_tick : FnOk P w K mg base (L2.CX P w) 2 f_check_tick d_check_tick ["tick", "most"] (liftX K (FX_check_tick xa))) : FnOk P w K mg base (L2.CX P w) 6 f fd ["plan", "pace", "cell", "last"] (liftX K (FX_story xa)) :=
  fd_okX (FX_story xa) Fu sc_story (lenx_story xa) fun cdv A outer s H E hr tk => ⟨rdx_story xa, (dssx_cons (dsx_expr (dex_call tk D_check_plan GX_check_plan hr (das_cons (dv_e (de_var 0)) das_nil)))
      (dssx_cons (dsx_expr (dex_call tk D_check_pace GX_check_pace hr (das_cons (dv_e (de_var 0)) (das_cons (dv_e (de_var 1)) das_nil))))
      (dssx_cons (dsx_expr (dex_call tk D_check_cell GX_check_cell hr (das_cons (dv_e (de_var 0)) (das_cons (dv_e (de_var 2)) das_nil))))
      (dssx_cons (dsx_expr (dex_call tk D_check_tick GX_check_tick hr (das_cons (dv_e (de_var 3)) (das_cons (dv_e de_int) das_nil))))
      (dssx_of dss_never))))), holdsx_story xa⟩
abbrev s_can_see : Stmt := topS 66
theorem sc_can_see : FnScope ["plan", "cell", "tick"] ["plan", "cell", "tick"] (defScope s_can_see) := ⟨rfl, rfl, rfl, by decide +kernel, rfl, by decide +kernel, by decide +kernel⟩
theorem okx_can_see {f : Addr} {fd : FuncData} (Fu : Fun K "can_see" "can_see" s_can_see f fd) (B : Blt mg) {xa : XA} (XF : XC K mg xa) {f_check_plan : Addr} {d_check_plan : FuncData} (D_check_plan : Df K mg "check_plan" s_check_plan ["plan"] f_check_plan d_check_plan) (GX_check_plan : FnOk P w K mg base (L2.CX P w) 5 f_check_plan d_check_plan ["plan"] (liftX K (FX_check_plan xa))) {f_check_cell : Addr} {d_check_cell : FuncData} (D_check_cell : Df K mg "check_cell" s_check_cell ["plan", "cell"] f_check_cell d_check_cell) (GX_check_cell : FnOk P w K mg base (L2.CX P w) 2 f_check_cell d_check_cell ["plan", "cell"] (liftX K (FX_check_cell xa))) {f_check_tick : Addr} {d_check_tick : FuncData} (D_check_tick : Df K mg "check_tick" s_check_tick ["tick", "most"] f_check_tick d_check_tick) (GX_check_tick : FnOk P w K mg base (L2.CX P w) 2 f_check_tick d_check_tick ["tick", "most"] (liftX K (FX_check_tick xa))) : FnOk P w K mg base (L2.CX P w) 8 f fd ["plan", "cell", "tick"] (liftX K (FX_can_see xa)) :=
  fd_okX (FX_can_see xa) Fu sc_can_see (lenx_can_see xa) fun cdv A outer s H E hr tk => ⟨rdx_can_see xa, (dssx_cons (dsx_expr (dex_call tk D_check_plan GX_check_plan hr (das_cons (dv_e (de_var 0)) das_nil)))
      (dssx_cons (dsx_expr (dex_call tk D_check_cell GX_check_cell hr (das_cons (dv_e (de_var 0)) (das_cons (dv_e (de_var 1)) das_nil))))
      (dssx_cons (dsx_expr (dex_call tk D_check_tick GX_check_tick hr (das_cons (dv_e (de_var 2)) (das_cons (dv_e de_int) das_nil))))
      (dssx_of dss_never)))), holdsx_can_see xa⟩
abbrev s_is_sign : Stmt := topS 21
theorem sc_is_sign : FnScope ["value"] ["value"] (defScope s_is_sign) := ⟨rfl, rfl, rfl, by decide +kernel, rfl, by decide +kernel, by decide +kernel⟩
theorem ok_is_sign {f : Addr} {fd : FuncData} (Fu : Fun K "is_sign" "is_sign" s_is_sign f fd) (B : Blt mg) {f_is_letter : Addr} {d_is_letter : FuncData} (D_is_letter : Df K mg "is_letter" s_is_letter ["value"] f_is_letter d_is_letter) (G_is_letter : FnOk P w K mg base CX0 1 f_is_letter d_is_letter ["value"] (liftF K F_is_letter)) (m_BARE : ∃ t, mg "BARE" = some (.str "." t)) : FnOk P w K mg base CX0 2 f fd ["value"] (liftF K F_is_sign) :=
  fd_ok F_is_sign Fu sc_is_sign len_is_sign fun cdv A outer s H E hr => ⟨rd_is_sign, (dss_one (ds_ret (de_or (de_cmp do_eqS (de_var 0) (de_globS (m_BARE.choose_spec))) (de_one (df_call D_is_letter G_is_letter hr (das_cons (dv_e (de_var 0)) das_nil)))))), holds_is_sign⟩
abbrev s_sure : Stmt := topS 67
theorem sc_sure : FnScope ["plan", "cell", "sign", "last", "tick"] ["plan", "cell", "sign", "last"] (defScope s_sure) := ⟨rfl, rfl, rfl, by decide +kernel, rfl, by decide +kernel, by decide +kernel⟩
theorem okx_sure {f : Addr} {fd : FuncData} (Fu : Fun K "sure" "sure" s_sure f fd) (B : Blt mg) {xa : XA} (XF : XC K mg xa) {f_is_sign : Addr} {d_is_sign : FuncData} (D_is_sign : Df K mg "is_sign" s_is_sign ["value"] f_is_sign d_is_sign) (G_is_sign : FnOk P w K mg base CX0 2 f_is_sign d_is_sign ["value"] (liftF K F_is_sign)) {f_check_plan : Addr} {d_check_plan : FuncData} (D_check_plan : Df K mg "check_plan" s_check_plan ["plan"] f_check_plan d_check_plan) (GX_check_plan : FnOk P w K mg base (L2.CX P w) 5 f_check_plan d_check_plan ["plan"] (liftX K (FX_check_plan xa))) {f_check_cell : Addr} {d_check_cell : FuncData} (D_check_cell : Df K mg "check_cell" s_check_cell ["plan", "cell"] f_check_cell d_check_cell) (GX_check_cell : FnOk P w K mg base (L2.CX P w) 2 f_check_cell d_check_cell ["plan", "cell"] (liftX K (FX_check_cell xa))) {f_check_tick : Addr} {d_check_tick : FuncData} (D_check_tick : Df K mg "check_tick" s_check_tick ["tick", "most"] f_check_tick d_check_tick) (GX_check_tick : FnOk P w K mg base (L2.CX P w) 2 f_check_tick d_check_tick ["tick", "most"] (liftX K (FX_check_tick xa))) : FnOk P w K mg base (L2.CX P w) 8 f fd ["plan", "cell", "sign", "last"] (liftX K (FX_sure xa)) :=
  fd_okX (FX_sure xa) Fu sc_sure (lenx_sure xa) fun cdv A outer s H E hr tk => ⟨rdx_sure xa, (dssx_cons (dsx_expr (dex_call tk D_check_plan GX_check_plan hr (das_cons (dv_e (de_var 0)) das_nil)))
      (dssx_cons (dsx_expr (dex_call tk D_check_cell GX_check_cell hr (das_cons (dv_e (de_var 0)) (das_cons (dv_e (de_var 1)) das_nil))))
      (dssx_cons (dsx_if (dt_not (dt_truth (df_call D_is_sign G_is_sign hr (das_cons (dv_e (de_var 2)) das_nil)))) (dssx_one (dsx_raise rfl tk (pmk_own PySem.F.excBase_ValueError XF.xNoSign XF.gNoSign XF.kNoSign (raises_own XF.bNoSign XF.tNoSign) rfl))) dssx_nil)
      (dssx_cons (dsx_expr (dex_call tk D_check_tick GX_check_tick hr (das_cons (dv_e (de_var 3)) (das_cons (dv_e de_int) das_nil))))
      (dssx_of dss_never))))), holdsx_sure xa⟩
abbrev s_check_rounds : Stmt := topS 64
theorem sc_check_rounds : FnScope ["plan"] ["plan"] (defScope s_check_rounds) := ⟨rfl, rfl, rfl, by decide +kernel, rfl, by decide +kernel, by decide +kernel⟩
theorem okx_check_rounds {f : Addr} {fd : FuncData} (Fu : Fun K "check_rounds" "check_rounds" s_check_rounds f fd) (B : Blt mg) {xa : XA} (XF : XC K mg xa) {f_check_plan : Addr} {d_check_plan : FuncData} (D_check_plan : Df K mg "check_plan" s_check_plan ["plan"] f_check_plan d_check_plan) (GX_check_plan : FnOk P w K mg base (L2.CX P w) 5 f_check_plan d_check_plan ["plan"] (liftX K (FX_check_plan xa))) : FnOk P w K mg base (L2.CX P w) 6 f fd ["plan"] (liftX K (FX_check_rounds xa)) :=
  fd_okX (FX_check_rounds xa) Fu sc_check_rounds (lenx_check_rounds xa) fun cdv A outer s H E hr tk => ⟨rdx_check_rounds xa, (dssx_cons (dsx_expr (dex_call tk D_check_plan GX_check_plan hr (das_cons (dv_e (de_var 0)) das_nil)))
      (dssx_of dss_never)), holdsx_check_rounds xa⟩
abbrev s_settled : Stmt := topS 68
theorem sc_settled : FnScope ["plan"] ["plan"] (defScope s_settled) := ⟨rfl, rfl, rfl, by decide +kernel, rfl, by decide +kernel, by decide +kernel⟩
theorem okx_settled {f : Addr} {fd : FuncData} (Fu : Fun K "settled" "settled" s_settled f fd) (B : Blt mg) {xa : XA} (XF : XC K mg xa) {f_check_rounds : Addr} {d_check_rounds : FuncData} (D_check_rounds : Df K mg "check_rounds" s_check_rounds ["plan"] f_check_rounds d_check_rounds) (GX_check_rounds : FnOk P w K mg base (L2.CX P w) 6 f_check_rounds d_check_rounds ["plan"] (liftX K (FX_check_rounds xa))) : FnOk P w K mg base (L2.CX P w) 7 f fd ["plan"] (liftX K (FX_settled xa)) :=
  fd_okX (FX_settled xa) Fu sc_settled (lenx_settled xa) fun cdv A outer s H E hr tk => ⟨rdx_settled xa, (dssx_cons (dsx_expr (dex_call tk D_check_rounds GX_check_rounds hr (das_cons (dv_e (de_var 0)) das_nil)))
      (dssx_of dss_never)), holdsx_settled xa⟩
abbrev s_needless : Stmt := topS 58
theorem sc_needless : FnScope ["plan", "numbers", "number"] ["plan"] (defScope s_needless) := ⟨rfl, rfl, rfl, by decide +kernel, rfl, by decide +kernel, by decide +kernel⟩
theorem okx_needless {f : Addr} {fd : FuncData} (Fu : Fun K "needless" "needless" s_needless f fd) (B : Blt mg) {xa : XA} (XF : XC K mg xa) {f_check_plan : Addr} {d_check_plan : FuncData} (D_check_plan : Df K mg "check_plan" s_check_plan ["plan"] f_check_plan d_check_plan) (GX_check_plan : FnOk P w K mg base (L2.CX P w) 5 f_check_plan d_check_plan ["plan"] (liftX K (FX_check_plan xa))) : FnOk P w K mg base (L2.CX P w) 6 f fd ["plan"] (liftX K (FX_needless xa)) :=
  fd_okX (FX_needless xa) Fu sc_needless (lenx_needless xa) fun cdv A outer s H E hr tk => ⟨rdx_needless xa, (dssx_cons (dsx_expr (dex_call tk D_check_plan GX_check_plan hr (das_cons (dv_e (de_var 0)) das_nil)))
      (dssx_of dss_never)), holdsx_needless xa⟩
abbrev s_check_like : Stmt := topS 51
theorem sc_check_like : FnScope ["plan", "other"] ["plan", "other"] (defScope s_check_like) := ⟨rfl, rfl, rfl, by decide +kernel, rfl, by decide +kernel, by decide +kernel⟩
theorem okx_check_like {f : Addr} {fd : FuncData} (Fu : Fun K "check_like" "check_like" s_check_like f fd) (B : Blt mg) {xa : XA} (XF : XC K mg xa) {f_rest_bounds : Addr} {d_rest_bounds : FuncData} (D_rest_bounds : Df K mg "rest_bounds" s_rest_bounds ["plan"] f_rest_bounds d_rest_bounds) (G_rest_bounds : FnOk P w K mg base CX0 1 f_rest_bounds d_rest_bounds ["plan"] (liftF K F_rest_bounds)) {f_check_plan : Addr} {d_check_plan : FuncData} (D_check_plan : Df K mg "check_plan" s_check_plan ["plan"] f_check_plan d_check_plan) (GX_check_plan : FnOk P w K mg base (L2.CX P w) 5 f_check_plan d_check_plan ["plan"] (liftX K (FX_check_plan xa))) : FnOk P w K mg base (L2.CX P w) 6 f fd ["plan", "other"] (liftX K (FX_check_like xa)) :=
  fd_okX (FX_check_like xa) Fu sc_check_like (lenx_check_like xa) fun cdv A outer s H E hr tk => ⟨rdx_check_like xa, (dssx_cons (dsx_expr (dex_call tk D_check_plan GX_check_plan hr (das_cons (dv_e (de_var 0)) das_nil)))
      (dssx_cons (dsx_expr (dex_call tk D_check_plan GX_check_plan hr (das_cons (dv_e (de_var 1)) das_nil)))
      (dssx_one (dsx_if (dw_pt (dw_or (dt_cmp (do_ne hr.units) (de_ix (de_var 0) de_int) (de_ix (de_var 1) de_int)) (dw_or1 (dt_cmp (do_ne hr.units) (df_call D_rest_bounds G_rest_bounds hr (das_cons (dv_e (de_var 0)) das_nil)) (df_call D_rest_bounds G_rest_bounds hr (das_cons (dv_e (de_var 1)) das_nil)))))) (dssx_one (dsx_raise rfl tk (pmk_own PySem.F.excBase_ValueError XF.xUnlike XF.gUnlike XF.kUnlike (raises_own XF.bUnlike XF.tUnlike) rfl))) dssx_nil)))), holdsx_check_like xa⟩
abbrev s_are_alike : Stmt := topS 56
theorem sc_are_alike : FnScope ["plan", "other"] ["plan", "other"] (defScope s_are_alike) := ⟨rfl, rfl, rfl, by decide +kernel, rfl, by decide +kernel, by decide +kernel⟩
theorem okx_are_alike {f : Addr} {fd : FuncData} (Fu : Fun K "are_alike" "are_alike" s_are_alike f fd) (B : Blt mg) {xa : XA} (XF : XC K mg xa) {f_check_like : Addr} {d_check_like : FuncData} (D_check_like : Df K mg "check_like" s_check_like ["plan", "other"] f_check_like d_check_like) (GX_check_like : FnOk P w K mg base (L2.CX P w) 6 f_check_like d_check_like ["plan", "other"] (liftX K (FX_check_like xa))) : FnOk P w K mg base (L2.CX P w) 7 f fd ["plan", "other"] (liftX K (FX_are_alike xa)) :=
  fd_okX (FX_are_alike xa) Fu sc_are_alike (lenx_are_alike xa) fun cdv A outer s H E hr tk => ⟨rdx_are_alike xa, (dssx_cons (dsx_expr (dex_call tk D_check_like GX_check_like hr (das_cons (dv_e (de_var 0)) (das_cons (dv_e (de_var 1)) das_nil))))
      (dssx_of dss_never)), holdsx_are_alike xa⟩
abbrev s_parting : Stmt := topS 57
theorem sc_parting : FnScope ["plan", "other"] ["plan", "other"] (defScope s_parting) := ⟨rfl, rfl, rfl, by decide +kernel, rfl, by decide +kernel, by decide +kernel⟩
theorem okx_parting {f : Addr} {fd : FuncData} (Fu : Fun K "parting" "parting" s_parting f fd) (B : Blt mg) {xa : XA} (XF : XC K mg xa) {f_check_like : Addr} {d_check_like : FuncData} (D_check_like : Df K mg "check_like" s_check_like ["plan", "other"] f_check_like d_check_like) (GX_check_like : FnOk P w K mg base (L2.CX P w) 6 f_check_like d_check_like ["plan", "other"] (liftX K (FX_check_like xa))) : FnOk P w K mg base (L2.CX P w) 7 f fd ["plan", "other"] (liftX K (FX_parting xa)) :=
  fd_okX (FX_parting xa) Fu sc_parting (lenx_parting xa) fun cdv A outer s H E hr tk => ⟨rdx_parting xa, (dssx_cons (dsx_expr (dex_call tk D_check_like GX_check_like hr (das_cons (dv_e (de_var 0)) (das_cons (dv_e (de_var 1)) das_nil))))
      (dssx_of dss_never)), holdsx_parting xa⟩
abbrev s_least_stay : Stmt := topS 59
theorem sc_least_stay : FnScope ["plan", "ink", "short", "enough", "stay"] ["plan", "ink"] (defScope s_least_stay) := ⟨rfl, rfl, rfl, by decide +kernel, rfl, by decide +kernel, by decide +kernel⟩
theorem okx_least_stay {f : Addr} {fd : FuncData} (Fu : Fun K "least_stay" "least_stay" s_least_stay f fd) (B : Blt mg) {xa : XA} (XF : XC K mg xa) {f_is_whole : Addr} {d_is_whole : FuncData} (D_is_whole : Df K mg "is_whole" s_is_whole ["value", "low", "high"] f_is_whole d_is_whole) (G_is_whole : FnOk P w K mg base CX0 1 f_is_whole d_is_whole ["value", "low", "high"] (liftF K F_is_whole)) {f_check_plan : Addr} {d_check_plan : FuncData} (D_check_plan : Df K mg "check_plan" s_check_plan ["plan"] f_check_plan d_check_plan) (GX_check_plan : FnOk P w K mg base (L2.CX P w) 5 f_check_plan d_check_plan ["plan"] (liftX K (FX_check_plan xa))) : FnOk P w K mg base (L2.CX P w) 6 f fd ["plan", "ink"] (liftX K (FX_least_stay xa)) :=
  fd_okX (FX_least_stay xa) Fu sc_least_stay (lenx_least_stay xa) fun cdv A outer s H E hr tk => ⟨rdx_least_stay xa, (dssx_cons (dsx_expr (dex_call tk D_check_plan GX_check_plan hr (das_cons (dv_e (de_var 0)) das_nil)))
      (dssx_cons (dsx_if (dt_not (dt_truth (df_call D_is_whole G_is_whole hr (das_cons (dv_e (de_var 1)) (das_cons (dv_e de_int) (das_cons (dv_e (de_op do_sub (de_callB dc_len (by rfl) B.len (by decide +kernel) (da_cons (de_ix (de_var 0) de_int) da_nil)) de_int)) das_nil)))))) (dssx_one (dsx_raise rfl tk (pmk_own PySem.F.excBase_ValueError XF.xNoInk XF.gNoInk XF.kNoInk (raises_own XF.bNoInk XF.tNoInk) rfl))) dssx_nil)
      (dssx_of dss_never))), holdsx_least_stay xa⟩
abbrev s_law : Stmt := topS 74
theorem sc_law : FnScope ["script", "row", "plan", "cells", "stays", "writes", "pace", "odd", "bad", "calls", "other", "write", "call", "%tab"] ["script"] (defScope s_law) := ⟨rfl, rfl, rfl, by decide +kernel, rfl, by decide +kernel, by decide +kernel⟩
theorem ok_law (B : Blt mg) {xa : XA} (XF : XC K mg xa) {f__law_plan : Addr} {d__law_plan : FuncData} (D__law_plan : Df K mg "_law_plan" s__law_plan ["row", "most", "wide"] f__law_plan d__law_plan) (G__law_plan : FnOk P w K mg base CX0 3 f__law_plan d__law_plan ["row", "most", "wide"] (liftF K F__law_plan)) {f__law_pick : Addr} {d__law_pick : FuncData} (D__law_pick : Df K mg "_law_pick" s__law_pick ["row", "things"] f__law_pick d__law_pick) (G__law_pick : FnOk P w K mg base CX0 2 f__law_pick d__law_pick ["row", "things"] (liftF K F__law_pick)) {f_ticks : Addr} {d_ticks : FuncData} (D_ticks : Df K mg "ticks" s_ticks ["plan", "pace"] f_ticks d_ticks) (GX_ticks : FnOk P w K mg base (L2.CX P w) 6 f_ticks d_ticks ["plan", "pace"] (liftX K (FX_ticks xa))) {f_seen : Addr} {d_seen : FuncData} (D_seen : Df K mg "seen" s_seen ["plan", "pace", "cell", "tick"] f_seen d_seen) (GX_seen : FnOk P w K mg base (L2.CX P w) 6 f_seen d_seen ["plan", "pace", "cell", "tick"] (liftX K (FX_seen xa))) {f_board : Addr} {d_board : FuncData} (D_board : Df K mg "board" s_board ["plan", "pace", "tick"] f_board d_board) (GX_board : FnOk P w K mg base (L2.CX P w) 6 f_board d_board ["plan", "pace", "tick"] (liftX K (FX_board xa))) {f_story : Addr} {d_story : FuncData} (D_story : Df K mg "story" s_story ["plan", "pace", "cell", "last"] f_story d_story) (GX_story : FnOk P w K mg base (L2.CX P w) 6 f_story d_story ["plan", "pace", "cell", "last"] (liftX K (FX_story xa))) {f_can_see : Addr} {d_can_see : FuncData} (D_can_see : Df K mg "can_see" s_can_see ["plan", "cell", "tick"] f_can_see d_can_see) (GX_can_see : FnOk P w K mg base (L2.CX P w) 8 f_can_see d_can_see ["plan", "cell", "tick"] (liftX K (FX_can_see xa))) {f_sure : Addr} {d_sure : FuncData} (D_sure : Df K mg "sure" s_sure ["plan", "cell", "sign", "last"] f_sure d_sure) (GX_sure : FnOk P w K mg base (L2.CX P w) 8 f_sure d_sure ["plan", "cell", "sign", "last"] (liftX K (FX_sure xa))) {f_settled : Addr} {d_settled : FuncData} (D_settled : Df K mg "settled" s_settled ["plan"] f_settled d_settled) (GX_settled : FnOk P w K mg base (L2.CX P w) 7 f_settled d_settled ["plan"] (liftX K (FX_settled xa))) {f_needless : Addr} {d_needless : FuncData} (D_needless : Df K mg "needless" s_needless ["plan"] f_needless d_needless) (GX_needless : FnOk P w K mg base (L2.CX P w) 6 f_needless d_needless ["plan"] (liftX K (FX_needless xa))) {f_are_alike : Addr} {d_are_alike : FuncData} (D_are_alike : Df K mg "are_alike" s_are_alike ["plan", "other"] f_are_alike d_are_alike) (GX_are_alike : FnOk P w K mg base (L2.CX P w) 7 f_are_alike d_are_alike ["plan", "other"] (liftX K (FX_are_alike xa))) {f_parting : Addr} {d_parting : FuncData} (D_parting : Df K mg "parting" s_parting ["plan", "other"] f_parting d_parting) (GX_parting : FnOk P w K mg base (L2.CX P w) 7 f_parting d_parting ["plan", "other"] (liftX K (FX_parting xa))) {f_least_stay : Addr} {d_least_stay : FuncData} (D_least_stay : Df K mg "least_stay" s_least_stay ["plan", "ink"] f_least_stay d_least_stay) (GX_least_stay : FnOk P w K mg base (L2.CX P w) 6 f_least_stay d_least_stay ["plan", "ink"] (liftX K (FX_least_stay xa))) {f__law_error : Addr} {d__law_error : FuncData} (D__law_error : Df K mg "_law_error" s__law_error ["call"] f__law_error d__law_error) {Pt cc : Addr} (TBx : LamX.TabB base mg cc Pt) (hqx : (("law" : Str) ++ ".<locals>.") ++ "<lambda>" = nmOf K Pt) (hx : XT K xa) {f : Addr} {oc kV doc pm ct : Value} {od an : Option Addr} {osl : Array (Option Value)} (lk : K.lookup f = some ⟨oc, od, .func (PySem.W.fnOf "law" "law" (defArgs s_law) (defBody s_law) (defScope s_law) .none kV doc pm an (.ref cc) ct), osl⟩) (hcd : PySem.W.codeIn K (.ref cc) "law" = true) :
    FnOk P w K mg base CX0 11 f (PySem.W.fnOf "law" "law" (defArgs s_law) (defBody s_law) (defScope s_law) .none kV doc pm an (.ref cc) ct) ["script"] (liftFT K Pt F_law) :=
  fd_okT (gi := 13) F_law lk hcd sc_law len_law (by decide) (by decide) fun A outer s H E hr => ⟨rd_law xa K Pt (closP _ 8), (dss_cons (ds_row 1 0 (by decide) sc_law.nd)
      (dss_cons (ds_set 2 sc_law.nd (df_call D__law_plan G__law_plan hr (das_cons (dv_row 1) (das_cons (dv_e de_int) (das_cons (dv_e de_int) das_nil)))))
      (dss_cons (ds_asg (de_var 2) (dg_tup rfl (dgs_cons (dg_name 3 sc_law.nd) (dgs_cons (dg_name 4 sc_law.nd) (dgs_cons (dg_name 5 sc_law.nd) dgs_nil)))))
      (dss_cons (ds_set 6 sc_law.nd (de_callT dc_tuple (by rfl) B.tuple (by decide +kernel) (da_cons (de_lc [("write", 11)] rfl sc_law.nd (di_any (de_var 5)) (fun _ _ _ _ _ => (dg_name 11 sc_law.nd)) (fun _ _ _ _ _ => dts_nil) (fun _ _ _ _ _ => (de_ix (de_var 11) de_int)) (by exact (show blkC ["script", "row", "plan", "cells", "stays", "writes", "pace", "odd", "bad", "calls", "other", "write", "call", "%tab"] (defScope s_law) _ [("write", 11)] = true by decide +kernel))) da_nil)))
      (dss_cons (ds_set 7 sc_law.nd (de_lst (da_cons de_non (da_cons (de_tup da_nil) (da_cons (de_callT dc_list (by rfl) B.list (by decide +kernel) (da_cons (de_var 2) da_nil)) (da_cons (de_tup (da_cons (de_var 3) (da_cons (de_var 4) da_nil))) (da_cons (de_tup (da_cons de_int (da_cons (de_var 4) (da_cons (de_tup da_nil) da_nil)))) (da_cons (de_tup (da_cons (de_var 3) (da_cons (de_tup da_nil) (da_cons (de_tup da_nil) da_nil)))) (da_cons (de_tup (da_cons (de_var 3) (da_cons (de_var 4) (da_cons (de_callT dc_list (by rfl) B.list (by decide +kernel) (da_cons (de_var 5) da_nil)) da_nil)))) (da_cons de_int da_nil))))))))))
      (dss_cons (ds_set 8 sc_law.nd (df_call D__law_pick G__law_pick hr (das_cons (dv_row 1) (das_cons (dv_e (de_op do_add (de_var 7) (de_lst (da_cons (de_tup (da_cons (de_var 3) (da_cons (de_var 4) (da_cons (de_tup (da_cons (de_tup (da_cons (de_var 3) (da_cons de_str (da_cons de_int (da_cons de_int (da_cons de_int da_nil)))))) da_nil)) da_nil)))) da_nil)))) das_nil))))
      (dss_cons (ds_clos 9 sc_law.nd (dc_lst (i := 13) (dls_cons (dl_lam (k := 8) TBx rfl hqx ⟨lamP_by (by kernel_rfl), lamB0 rfl (by intros; rfl), fun A outer s H E f c' hr2 => (dex_call takes_lam D_ticks GX_ticks hr2 (das_cons (dv_e (de_var 8)) (das_cons (dv_e de_non) das_nil)))⟩) (dls_cons (dl_lamD (k := 8) TBx rfl hqx ⟨lamP_by (by kernel_rfl), lamB1 "a" rfl (by kernel_rfl) (fun _ _ _ _ _ _ _ _ => ⟨_, rfl, rfl⟩), fun A outer s H E f c' hr2 => (dex_call takes_lam D_seen GX_seen hr2 (das_cons (dv_e (de_var 8)) (das_cons (dv_e de_non) (das_cons (dv_e de_non) (das_cons (dv_e de_non) das_nil)))))⟩) (dls_cons (dl_lamD (k := 8) TBx rfl hqx ⟨lamP_by (by kernel_rfl), lamB1 "b" rfl (by kernel_rfl) (fun _ _ _ _ _ _ _ _ => ⟨_, rfl, rfl⟩), fun A outer s H E f c' hr2 => (dex_call takes_lam D_board GX_board hr2 (das_cons (dv_e (de_var 8)) (das_cons (dv_e de_non) (das_cons (dv_e de_non) das_nil))))⟩) (dls_cons (dl_lamD (k := 8) TBx rfl hqx ⟨lamP_by (by kernel_rfl), lamB1 "c" rfl (by kernel_rfl) (fun _ _ _ _ _ _ _ _ => ⟨_, rfl, rfl⟩), fun A outer s H E f c' hr2 => (dex_call takes_lam D_story GX_story hr2 (das_cons (dv_e (de_var 8)) (das_cons (dv_e de_non) (das_cons (dv_e de_non) (das_cons (dv_e de_non) das_nil)))))⟩) dls_nil))))))
      (dss_cons (ds_clos 9 sc_law.nd (dc_add (dc_var 9) (dc_lst (i := 13) (dls_cons (dl_lam (k := 8) TBx rfl hqx ⟨lamP_by (by kernel_rfl), lamB0 rfl (by intros; rfl), fun A outer s H E f c' hr2 => (dex_call takes_lam D_can_see GX_can_see hr2 (das_cons (dv_e (de_var 8)) (das_cons (dv_e de_non) (das_cons (dv_e de_non) das_nil))))⟩) (dls_cons (dl_lamD (k := 8) TBx rfl hqx ⟨lamP_by (by kernel_rfl), lamB1 "a" rfl (by kernel_rfl) (fun _ _ _ _ _ _ _ _ => ⟨_, rfl, rfl⟩), fun A outer s H E f c' hr2 => (dex_call takes_lam D_sure GX_sure hr2 (das_cons (dv_e (de_var 8)) (das_cons (dv_e de_non) (das_cons (dv_e de_non) (das_cons (dv_e de_non) das_nil)))))⟩) (dls_cons (dl_lamD (k := 8) TBx rfl hqx ⟨lamP_by (by kernel_rfl), lamB1 "b" rfl (by kernel_rfl) (fun _ _ _ _ _ _ _ _ => ⟨_, rfl, rfl⟩), fun A outer s H E f c' hr2 => (dex_call takes_lam D_settled GX_settled hr2 (das_cons (dv_e (de_var 8)) das_nil))⟩) (dls_cons (dl_lamD (k := 8) TBx rfl hqx ⟨lamP_by (by kernel_rfl), lamB1 "c" rfl (by kernel_rfl) (fun _ _ _ _ _ _ _ _ => ⟨_, rfl, rfl⟩), fun A outer s H E f c' hr2 => (dex_call takes_lam D_needless GX_needless hr2 (das_cons (dv_e (de_var 8)) das_nil))⟩) dls_nil)))))))
      (dss_cons (ds_clos 9 sc_law.nd (dc_add (dc_var 9) (dc_lst (i := 13) (dls_cons (dl_lam (k := 8) TBx rfl hqx ⟨lamP_by (by kernel_rfl), lamB0 rfl (by intros; rfl), fun A outer s H E f c' hr2 => (dex_call takes_lam D_are_alike GX_are_alike hr2 (das_cons (dv_e (de_var 8)) (das_cons (dv_e de_non) das_nil)))⟩) (dls_cons (dl_lamD (k := 8) TBx rfl hqx ⟨lamP_by (by kernel_rfl), lamB1 "a" rfl (by kernel_rfl) (fun _ _ _ _ _ _ _ _ => ⟨_, rfl, rfl⟩), fun A outer s H E f c' hr2 => (dex_call takes_lam D_are_alike GX_are_alike hr2 (das_cons (dv_e (de_var 2)) (das_cons (dv_e (de_var 8)) das_nil)))⟩) (dls_cons (dl_lamD (k := 8) TBx rfl hqx ⟨lamP_by (by kernel_rfl), lamB1 "b" rfl (by kernel_rfl) (fun _ _ _ _ _ _ _ _ => ⟨_, rfl, rfl⟩), fun A outer s H E f c' hr2 => (dex_call takes_lam D_parting GX_parting hr2 (das_cons (dv_e (de_var 2)) (das_cons (dv_e (de_var 8)) das_nil)))⟩) (dls_cons (dl_lamD (k := 8) TBx rfl hqx ⟨lamP_by (by kernel_rfl), lamB1 "c" rfl (by kernel_rfl) (fun _ _ _ _ _ _ _ _ => ⟨_, rfl, rfl⟩), fun A outer s H E f c' hr2 => (dex_call takes_lam D_least_stay GX_least_stay hr2 (das_cons (dv_e (de_var 8)) (das_cons (dv_e de_non) das_nil)))⟩) dls_nil)))))))
      (dss_cons (ds_if (dt_cmp (do_ne hr.units) (de_no (j := 12) rfl sc_law.nd (dc_var 9) D__law_error (err_def XF) sc__law_error (hr.mono (by decide : 10 ≤ 10)) (by exact (show blkC ["script", "row", "plan", "cells", "stays", "writes", "pace", "odd", "bad", "calls", "other", "write", "call", "%tab"] (defScope s_law) _ [("call", 12)] = true by decide +kernel))) (de_lst da_nil)) (dss_one (ds_ret de_bl)) dss_nil)
      (dss_cons (ds_set 7 sc_law.nd (de_lst (da_cons de_non (da_cons (de_callT dc_list (by rfl) B.list (by decide +kernel) (da_cons (de_var 6) da_nil)) (da_cons (de_op do_add (de_var 6) (de_tup (da_cons de_int da_nil))) (da_cons de_int (da_cons (de_op do_mulS0 de_str (de_callB dc_len (by rfl) B.len (by decide +kernel) (da_cons (de_var 6) da_nil))) da_nil)))))))
      (dss_cons (ds_if (dt_cmp (do_ne hr.units) (de_var 6) (de_tup da_nil)) (dss_one (ds_set 7 sc_law.nd (de_op do_add (de_var 7) (de_lst (da_cons (de_sl (de_var 6) (dp_some de_int) dp_none) (da_cons (de_op do_add (de_tup (da_cons de_bl da_nil)) (de_sl (de_var 6) (dp_some de_int) dp_none)) (da_cons (de_op do_add (de_tup (da_cons (de_op do_add (de_ix (de_ix (de_var 5) de_int) de_int) de_int) da_nil)) (de_sl (de_var 6) (dp_some de_int) dp_none)) (da_cons (de_op do_add (de_tup (da_cons (de_op do_sub de_int de_int) da_nil)) (de_sl (de_var 6) (dp_some de_int) dp_none)) da_nil)))))))) dss_nil)
      (dss_cons (ds_for PassesOwn.never rfl (di_any (de_var 7)) (dg_name 8 sc_law.nd) (dss_cons (ds_clos 9 sc_law.nd (dc_lst (i := 13) (dls_cons (dl_lam (k := 8) TBx rfl hqx ⟨lamP_by (by kernel_rfl), lamB0 rfl (by intros; rfl), fun A outer s H E f c' hr2 => (dex_call takes_lam D_ticks GX_ticks hr2 (das_cons (dv_e (de_var 2)) (das_cons (dv_e (de_var 8)) das_nil)))⟩) (dls_cons (dl_lamD (k := 8) TBx rfl hqx ⟨lamP_by (by kernel_rfl), lamB1 "a" rfl (by kernel_rfl) (fun _ _ _ _ _ _ _ _ => ⟨_, rfl, rfl⟩), fun A outer s H E f c' hr2 => (dex_call takes_lam D_seen GX_seen hr2 (das_cons (dv_e (de_var 2)) (das_cons (dv_e (de_var 8)) (das_cons (dv_e de_non) (das_cons (dv_e de_non) das_nil)))))⟩) (dls_cons (dl_lamD (k := 8) TBx rfl hqx ⟨lamP_by (by kernel_rfl), lamB1 "b" rfl (by kernel_rfl) (fun _ _ _ _ _ _ _ _ => ⟨_, rfl, rfl⟩), fun A outer s H E f c' hr2 => (dex_call takes_lam D_board GX_board hr2 (das_cons (dv_e (de_var 2)) (das_cons (dv_e (de_var 8)) (das_cons (dv_e de_non) das_nil))))⟩) (dls_cons (dl_lamD (k := 8) TBx rfl hqx ⟨lamP_by (by kernel_rfl), lamB1 "c" rfl (by kernel_rfl) (fun _ _ _ _ _ _ _ _ => ⟨_, rfl, rfl⟩), fun A outer s H E f c' hr2 => (dex_call takes_lam D_story GX_story hr2 (das_cons (dv_e (de_var 2)) (das_cons (dv_e (de_var 8)) (das_cons (dv_e de_non) (das_cons (dv_e de_non) das_nil)))))⟩) dls_nil))))))
      (dss_one (ds_if (dt_cmp (do_ne hr.units) (de_no (j := 12) rfl sc_law.nd (dc_var 9) D__law_error (err_def XF) sc__law_error (hr.mono (by decide : 10 ≤ 10)) (by exact (show blkC ["script", "row", "plan", "cells", "stays", "writes", "pace", "odd", "bad", "calls", "other", "write", "call", "%tab"] (defScope s_law) _ [("call", 12)] = true by decide +kernel))) (de_lst da_nil)) (dss_one (ds_ret de_bl)) dss_nil))))
      (dss_cons (ds_for PassesOwn.never rfl (di_any (de_lst (da_cons de_non (da_cons (de_op do_sub de_int de_int) (da_cons (de_var 3) (da_cons de_bl (da_cons de_str da_nil))))))) (dg_name 8 sc_law.nd) (dss_cons (ds_clos 9 sc_law.nd (dc_lst (i := 13) (dls_cons (dl_lam (k := 8) TBx rfl hqx ⟨lamP_by (by kernel_rfl), lamB0 rfl (by intros; rfl), fun A outer s H E f c' hr2 => (dex_call takes_lam D_seen GX_seen hr2 (das_cons (dv_e (de_var 2)) (das_cons (dv_e (de_var 6)) (das_cons (dv_e (de_var 8)) (das_cons (dv_e de_non) das_nil)))))⟩) (dls_cons (dl_lamD (k := 8) TBx rfl hqx ⟨lamP_by (by kernel_rfl), lamB1 "a" rfl (by kernel_rfl) (fun _ _ _ _ _ _ _ _ => ⟨_, rfl, rfl⟩), fun A outer s H E f c' hr2 => (dex_call takes_lam D_story GX_story hr2 (das_cons (dv_e (de_var 2)) (das_cons (dv_e (de_var 6)) (das_cons (dv_e (de_var 8)) (das_cons (dv_e de_non) das_nil)))))⟩) (dls_cons (dl_lamD (k := 8) TBx rfl hqx ⟨lamP_by (by kernel_rfl), lamB1 "b" rfl (by kernel_rfl) (fun _ _ _ _ _ _ _ _ => ⟨_, rfl, rfl⟩), fun A outer s H E f c' hr2 => (dex_call takes_lam D_can_see GX_can_see hr2 (das_cons (dv_e (de_var 2)) (das_cons (dv_e (de_var 8)) (das_cons (dv_e de_non) das_nil))))⟩) dls_nil)))))
      (dss_one (ds_if (dt_cmp (do_ne hr.units) (de_no (j := 12) rfl sc_law.nd (dc_add (dc_var 9) (dc_lst (i := 13) (dls_cons (dl_lam (k := 8) TBx rfl hqx ⟨lamP_by (by kernel_rfl), lamB0 rfl (by intros; rfl), fun A outer s H E f c' hr2 => (dex_call takes_lam D_sure GX_sure hr2 (das_cons (dv_e (de_var 2)) (das_cons (dv_e (de_var 8)) (das_cons (dv_e de_non) (das_cons (dv_e de_non) das_nil)))))⟩) dls_nil))) D__law_error (err_def XF) sc__law_error (hr.mono (by decide : 10 ≤ 10)) (by exact (show blkC ["script", "row", "plan", "cells", "stays", "writes", "pace", "odd", "bad", "calls", "other", "write", "call", "%tab"] (defScope s_law) _ [("call", 12)] = true by decide +kernel))) (de_lst da_nil)) (dss_one (ds_ret de_bl)) dss_nil))))
      (dss_cons (ds_for PassesOwn.never rfl (di_any (de_lst (da_cons de_non (da_cons (de_op do_sub de_int de_int) (da_cons de_int (da_cons de_bl (da_cons de_str da_nil))))))) (dg_name 8 sc_law.nd) (dss_cons (ds_clos 9 sc_law.nd (dc_lst (i := 13) (dls_cons (dl_lam (k := 8) TBx rfl hqx ⟨lamP_by (by kernel_rfl), lamB0 rfl (by intros; rfl), fun A outer s H E f c' hr2 => (dex_call takes_lam D_seen GX_seen hr2 (das_cons (dv_e (de_var 2)) (das_cons (dv_e (de_var 6)) (das_cons (dv_e de_int) (das_cons (dv_e (de_var 8)) das_nil)))))⟩) (dls_cons (dl_lamD (k := 8) TBx rfl hqx ⟨lamP_by (by kernel_rfl), lamB1 "a" rfl (by kernel_rfl) (fun _ _ _ _ _ _ _ _ => ⟨_, rfl, rfl⟩), fun A outer s H E f c' hr2 => (dex_call takes_lam D_board GX_board hr2 (das_cons (dv_e (de_var 2)) (das_cons (dv_e (de_var 6)) (das_cons (dv_e (de_var 8)) das_nil))))⟩) (dls_cons (dl_lamD (k := 8) TBx rfl hqx ⟨lamP_by (by kernel_rfl), lamB1 "b" rfl (by kernel_rfl) (fun _ _ _ _ _ _ _ _ => ⟨_, rfl, rfl⟩), fun A outer s H E f c' hr2 => (dex_call takes_lam D_can_see GX_can_see hr2 (das_cons (dv_e (de_var 2)) (das_cons (dv_e de_int) (das_cons (dv_e (de_var 8)) das_nil))))⟩) (dls_cons (dl_lamD (k := 8) TBx rfl hqx ⟨lamP_by (by kernel_rfl), lamB1 "c" rfl (by kernel_rfl) (fun _ _ _ _ _ _ _ _ => ⟨_, rfl, rfl⟩), fun A outer s H E f c' hr2 => (dex_call takes_lam D_story GX_story hr2 (das_cons (dv_e (de_var 2)) (das_cons (dv_e (de_var 6)) (das_cons (dv_e de_int) (das_cons (dv_e (de_var 8)) das_nil)))))⟩) dls_nil))))))
      (dss_one (ds_if (dt_cmp (do_ne hr.units) (de_no (j := 12) rfl sc_law.nd (dc_add (dc_var 9) (dc_lst (i := 13) (dls_cons (dl_lam (k := 8) TBx rfl hqx ⟨lamP_by (by kernel_rfl), lamB0 rfl (by intros; rfl), fun A outer s H E f c' hr2 => (dex_call takes_lam D_sure GX_sure hr2 (das_cons (dv_e (de_var 2)) (das_cons (dv_e de_int) (das_cons (dv_e de_str) (das_cons (dv_e (de_var 8)) das_nil)))))⟩) dls_nil))) D__law_error (err_def XF) sc__law_error (hr.mono (by decide : 10 ≤ 10)) (by exact (show blkC ["script", "row", "plan", "cells", "stays", "writes", "pace", "odd", "bad", "calls", "other", "write", "call", "%tab"] (defScope s_law) _ [("call", 12)] = true by decide +kernel))) (de_lst da_nil)) (dss_one (ds_ret de_bl)) dss_nil))))
      (dss_cons (ds_if (dt_cmp (do_ne hr.units) (de_lst (da_cons (de_err (i := 13) D__law_error (err_def XF) sc__law_error TBx rfl hqx (hr.mono (by decide : 8 ≤ 10)) (fun A outer s H E f c' hr2 => (dex_call takes_lam D_story GX_story hr2 (das_cons (dv_e (de_var 2)) (das_cons (dv_e (de_var 6)) (das_cons (dv_e de_int) (das_cons (dv_e de_int) das_nil)))))) (LamX.lamS_by (by kernel_rfl))) (da_cons (de_errL (i := 13) (dl_lamD (k := 8) TBx rfl hqx ⟨lamP_by (by kernel_rfl), lamB1 "a" rfl (by kernel_rfl) (fun _ _ _ _ _ _ _ _ => ⟨_, rfl, rfl⟩), fun A outer s H E f c' hr2 => (dex_call takes_lam D_sure GX_sure hr2 (das_cons (dv_e (de_var 2)) (das_cons (dv_e de_int) (das_cons (dv_e de_str) (das_cons (dv_e de_int) das_nil)))))⟩) D__law_error (err_def XF) sc__law_error (hr.mono (by decide : 10 ≤ 10))) da_nil))) (de_op do_mul (de_lst (da_cons de_str da_nil)) de_int)) (dss_one (ds_ret de_bl)) dss_nil)
      (dss_cons (ds_if (dt_cmp (do_ne hr.units) (de_err (i := 13) D__law_error (err_def XF) sc__law_error TBx rfl hqx (hr.mono (by decide : 8 ≤ 10)) (fun A outer s H E f c' hr2 => (dex_call takes_lam D_seen GX_seen hr2 (das_cons (dv_e (de_var 2)) (das_cons (dv_e (de_var 6)) (das_cons (dv_e de_int) (das_cons (dv_e de_int) das_nil)))))) (LamX.lamS_by (by kernel_rfl))) de_str) (dss_one (ds_ret de_bl)) dss_nil)
      (dss_cons (ds_if (dt_cmp (do_ne hr.units) (de_lc [("bad", 8)] rfl sc_law.nd (di_any (de_lst (da_cons de_non (da_cons de_str (da_cons de_str (da_cons de_str (da_cons de_int (da_cons de_str da_nil)))))))) (fun _ _ _ _ _ => (dg_name 8 sc_law.nd)) (fun _ _ _ _ _ => dts_nil) (fun _ _ _ _ _ => (de_err (i := 13) D__law_error (err_def XF) sc__law_error TBx rfl hqx (hr.mono (by decide : 10 ≤ 10)) (fun A outer s H E f c' hr2 => (dex_call takes_lam D_sure GX_sure hr2 (das_cons (dv_e (de_var 2)) (das_cons (dv_e de_int) (das_cons (dv_e (de_var 8)) (das_cons (dv_e de_non) das_nil)))))) (LamX.lamS_by (by kernel_rfl)))) (by exact (show blkC ["script", "row", "plan", "cells", "stays", "writes", "pace", "odd", "bad", "calls", "other", "write", "call", "%tab"] (defScope s_law) _ [("bad", 8)] = true by decide +kernel))) (de_op do_mul (de_lst (da_cons de_str da_nil)) de_int)) (dss_one (ds_ret de_bl)) dss_nil)
      (dss_cons (ds_if (dt_cmp (do_ne hr.units) (de_lc [("bad", 8)] rfl sc_law.nd (di_any (de_lst (da_cons de_non (da_cons (de_op do_sub de_int de_int) (da_cons (de_callB dc_len (by rfl) B.len (by decide +kernel) (da_cons (de_var 4) da_nil)) (da_cons de_bl da_nil)))))) (fun _ _ _ _ _ => (dg_name 8 sc_law.nd)) (fun _ _ _ _ _ => dts_nil) (fun _ _ _ _ _ => (de_err (i := 13) D__law_error (err_def XF) sc__law_error TBx rfl hqx (hr.mono (by decide : 8 ≤ 10)) (fun A outer s H E f c' hr2 => (dex_call takes_lam D_least_stay GX_least_stay hr2 (das_cons (dv_e (de_var 2)) (das_cons (dv_e (de_var 8)) das_nil)))) (LamX.lamS_by (by kernel_rfl)))) (by exact (show blkC ["script", "row", "plan", "cells", "stays", "writes", "pace", "odd", "bad", "calls", "other", "write", "call", "%tab"] (defScope s_law) _ [("bad", 8)] = true by decide +kernel))) (de_op do_mul (de_lst (da_cons de_str da_nil)) de_int)) (dss_one (ds_ret de_bl)) dss_nil)
      (dss_cons (ds_set 10 sc_law.nd (de_if (dt_cmp do_lt (de_callB dc_len (by rfl) B.len (by decide +kernel) (da_cons (de_var 5) da_nil)) de_int) (de_tup (da_cons (de_var 3) (da_cons (de_var 4) (da_cons (de_op do_add (de_var 5) (de_tup (da_cons (de_tup (da_cons de_int (da_cons de_str (da_cons de_int (da_cons de_int (da_cons de_int da_nil)))))) da_nil))) da_nil)))) (de_tup (da_cons (de_var 3) (da_cons (de_var 4) (da_cons (de_sl (de_var 5) (dp_some de_int) dp_none) da_nil))))))
      (dss_cons (ds_if (dt_cmp (do_ne hr.units) (de_lst (da_cons (de_err (i := 13) D__law_error (err_def XF) sc__law_error TBx rfl hqx (hr.mono (by decide : 9 ≤ 10)) (fun A outer s H E f c' hr2 => (dex_call takes_lam D_are_alike GX_are_alike hr2 (das_cons (dv_e (de_var 2)) (das_cons (dv_e (de_var 10)) das_nil)))) (LamX.lamS_by (by kernel_rfl))) (da_cons (de_errL (i := 13) (dl_lamD (k := 7) TBx rfl hqx ⟨lamP_by (by kernel_rfl), lamB1 "a" rfl (by kernel_rfl) (fun _ _ _ _ _ _ _ _ => ⟨_, rfl, rfl⟩), fun A outer s H E f c' hr2 => (dex_call takes_lam D_parting GX_parting hr2 (das_cons (dv_e (de_var 10)) (das_cons (dv_e (de_var 2)) das_nil)))⟩) D__law_error (err_def XF) sc__law_error (hr.mono (by decide : 9 ≤ 10))) da_nil))) (de_op do_mul (de_lst (da_cons de_str da_nil)) de_int)) (dss_one (ds_ret de_bl)) dss_nil)
      (dss_cons (ds_if (dt_cmp (do_ne hr.units) (de_err (i := 13) D__law_error (err_def XF) sc__law_error TBx rfl hqx (hr.mono (by decide : 9 ≤ 10)) (fun A outer s H E f c' hr2 => (dex_call takes_lam D_are_alike GX_are_alike hr2 (das_cons (dv_e (de_var 2)) (das_cons (dv_e (de_tup (da_cons de_int (da_cons (de_var 4) (da_cons (de_var 5) da_nil))))) das_nil)))) (LamX.lamS_by (by kernel_rfl))) de_str) (dss_one (ds_ret de_bl)) dss_nil)
      (dss_one (ds_ret (de_or (de_cmp (do_eq hr.units) (de_var 5) (de_tup da_nil)) (de_one (de_cmp (do_eq hr.units) (de_err (i := 13) D__law_error (err_def XF) sc__law_error TBx rfl hqx (hr.mono (by decide : 9 ≤ 10)) (fun A outer s H E f c' hr2 => (dex_call takes_lam D_are_alike GX_are_alike hr2 (das_cons (dv_e (de_var 2)) (das_cons (dv_e (de_tup (da_cons (de_var 3) (da_cons (de_var 4) (da_cons (de_op do_add (de_tup (da_cons (de_op do_add (de_sl (de_ix (de_var 5) de_int) dp_none (dp_some de_int)) (de_tup (da_cons (de_op do_add (de_ix (de_ix (de_var 5) de_int) de_int) de_int) da_nil))) da_nil)) (de_sl (de_var 5) (dp_some de_int) dp_none)) da_nil))))) das_nil)))) (LamX.lamS_by (by kernel_rfl))) de_str))))))))))))))))))))))))))), holds_law xa K Pt (closP _ 8) hx⟩
end
def spLawT (K : Fg) (Pt : Addr) : Sp := fun vs H Q _ => ∃ (a : Addr) (ns : List Int), vs = [.ref a] ∧ SqL K H a (ns.map V.int) ∧ ns.length ≤ 63 ∧ H Pt = some (.tbl #[]) ∧ ∀ H', Q (.bl true) H'
def hideT (H : Hp) : Hp := fun b => match H b with
  | some (.tbl _) => none
  | o => o
theorem hideT_same (H : Hp) : Same (hideT H) H := fun b o e => by
  unfold hideT at e
  split at e
  · cases e
  · exact e
theorem hideT_at {H : Hp} {b : Addr} {o : HO} (e : H b = some o) (n : NT o) : hideT H b = some o := by
  unfold hideT
  rw [e]
  split
  · next ps h => cases h; exact absurd rfl (n ps)
  · rfl
theorem hideT_nt (H : Hp) (b : Addr) (ps : Array Value) : hideT H b ≠ some (.tbl ps) := fun e => by
  unfold hideT at e
  split at e
  · cases e
  · next h => exact h ps e
theorem law_impT {P : Program} {w : World} {K : Fg} {mg : Str → Option Value} {base : Heap} {k : Nat} {f Pt : Addr} {fd : FuncData} {ps : List Str} (G : FnOk P w K mg base CX0 k f fd ps (liftFT K Pt F_law)) : FnOk P w K mg base CX0 k f fd ps (spLawT K Pt) :=
  G.imp fun vs H Q E ⟨a, ns, e, hS, _, hT, q⟩ => ⟨none, hideT H, [.scr ns], fun d => d = .bool true, ⟨hideT_same H, fun _ h => (by cases h), hideT_nt H⟩, by
    subst e
    refine .cons ⟨a, rfl, ?_⟩ .nil
    rcases hS with (h | ⟨o, h⟩) | h
    · exact .inl (.inl (hideT_at h (by intro _ z; cases z)))
    · exact .inl (.inr ⟨o, hideT_at h (by intro _ z; cases z)⟩)
    · exact .inr h, LamX.TabS.nil hT, ⟨ns, rfl, rfl⟩, fun v d G' H' hd W R => by subst hd; cases R; exact q _⟩
theorem df_mk {K : Fg} {h : Heap} {mg : Str → Option Value} {x : Str} {st : Stmt} {ps : List Str} {f : Addr} {oc : Value} {od an : Option Addr} {osl : Array (Option Value)} {kV doc pm cdv ct : Value} (X : K.In h) (G : h.Ns mainGlobals mg) (a : PySem.W.nsIn K mainGlobals x = some (some (.ref f)))
    (l : K.lookup f = some ⟨oc, od, .func (PySem.W.fnOf x x (defArgs st) (defBody st) (defScope st) .none kV doc pm an cdv ct), osl⟩) (c : PySem.W.codeIn K cdv x = true) (k : PySem.W.keepIn K (.ref f) = true)
    (b : ∀ (kV doc pm : Value) (an : Option Addr) (cdv ct : Value) (us : List Value), us.length = ps.length → bindArgs (PySem.W.fnOf x x (defArgs st) (defBody st) (defScope st) .none kV doc pm an cdv ct) ⟨us, []⟩ = pure (ps.zip us)) : Df K mg x st ps f (PySem.W.fnOf x x (defArgs st) (defBody st) (defScope st) .none kV doc pm an cdv ct) :=
  ⟨fun_mk l c k, PySem.W.mg_of X G a, (fun_mk (st := st) l c k).binds b⟩
theorem all_mk {l : PySem.W.OpenLaw} {w : World} {K : Fg} {h : Heap} {mg : Str → Option Value} {fa Pt cc e_BadPlan e_BadPace e_NoCell e_BadTick e_NoSign e_NoInk e_Unlike e_InkError f0 f1 f2 f3 f4 f5 f6 f7 f8 f9 f10 f11 f12 f13 f14 f15 f16 f17 f18 f19 f20 f21 f22 f23 f24 f25 f26 f27 f28 f29 f30 f31 f32 f33 : Addr} (hPt : h.get? Pt = some (PySem.W.tabObj #[])) (X : K.In h) (G : h.Ns mainGlobals mg) (hfa : mg "law" = some (.ref fa))
    {od0 an0 od1 an1 od2 an2 od3 an3 od4 an4 od5 an5 od6 an6 od7 an7 od8 an8 od9 an9 od10 an10 od11 an11 od12 an12 od13 an13 od14 an14 od15 an15 od16 an16 od17 an17 od18 an18 od19 an19 od20 an20 od21 an21 od22 an22 od23 an23 od24 an24 od25 an25 od26 an26 od27 an27 od28 an28 od29 an29 od30 an30 od31 an31 od32 an32 od33 an33 : Option Addr} {sl0 sl1 sl2 sl3 sl4 sl5 sl6 sl7 sl8 sl9 sl10 sl11 sl12 sl13 sl14 sl15 sl16 sl17 sl18 sl19 sl20 sl21 sl22 sl23 sl24 sl25 sl26 sl27 sl28 sl29 sl30 sl31 sl32 sl33 : Array (Option Value)} {oc0 kV0 dc0 pm0 cd0 ct0 oc1 kV1 dc1 pm1 cd1 ct1 oc2 kV2 dc2 pm2 cd2 ct2 oc3 kV3 dc3 pm3 cd3 ct3 oc4 kV4 dc4 pm4 cd4 ct4 oc5 kV5 dc5 pm5 cd5 ct5 oc6 kV6 dc6 pm6 cd6 ct6 oc7 kV7 dc7 pm7 cd7 ct7 oc8 kV8 dc8 pm8 cd8 ct8 oc9 kV9 dc9 pm9 cd9 ct9 oc10 kV10 dc10 pm10 cd10 ct10 oc11 kV11 dc11 pm11 cd11 ct11 oc12 kV12 dc12 pm12 cd12 ct12 oc13 kV13 dc13 pm13 cd13 ct13 oc14 kV14 dc14 pm14 cd14 ct14 oc15 kV15 dc15 pm15 cd15 ct15 oc16 kV16 dc16 pm16 cd16 ct16 oc17 kV17 dc17 pm17 cd17 ct17 oc18 kV18 dc18 pm18 cd18 ct18 oc19 kV19 dc19 pm19 cd19 ct19 oc20 kV20 dc20 pm20 cd20 ct20 oc21 kV21 dc21 pm21 cd21 ct21 oc22 kV22 dc22 pm22 cd22 ct22 oc23 kV23 dc23 pm23 cd23 ct23 oc24 kV24 dc24 pm24 cd24 ct24 oc25 kV25 dc25 pm25 cd25 ct25 oc26 kV26 dc26 pm26 cd26 ct26 oc27 kV27 dc27 pm27 cd27 ct27 oc28 kV28 dc28 pm28 cd28 ct28 oc29 kV29 dc29 pm29 cd29 ct29 oc30 kV30 dc30 pm30 cd30 ct30 oc31 kV31 dc31 pm31 cd31 ct31 oc32 kV32 dc32 pm32 cd32 ct32 oc33 kV33 dc33 pm33 ct33 : Value} {tk0 : Tok}
    (a0 : PySem.W.nsIn K mainGlobals "_law_taken" = some (some (.ref f0))) (l0 : K.lookup f0 = some ⟨oc0, od0, .func (PySem.W.fnOf "_law_taken" "_law_taken" (defArgs s__law_taken) (defBody s__law_taken) (defScope s__law_taken) .none kV0 dc0 pm0 an0 cd0 ct0), sl0⟩) (c0 : PySem.W.codeIn K cd0 "_law_taken" = true) (k0 : PySem.W.keepIn K (.ref f0) = true)
    (a1 : PySem.W.nsIn K mainGlobals "_law_pick" = some (some (.ref f1))) (l1 : K.lookup f1 = some ⟨oc1, od1, .func (PySem.W.fnOf "_law_pick" "_law_pick" (defArgs s__law_pick) (defBody s__law_pick) (defScope s__law_pick) .none kV1 dc1 pm1 an1 cd1 ct1), sl1⟩) (c1 : PySem.W.codeIn K cd1 "_law_pick" = true) (k1 : PySem.W.keepIn K (.ref f1) = true)
    (a2 : PySem.W.nsIn K mainGlobals "_law_plan" = some (some (.ref f2))) (l2 : K.lookup f2 = some ⟨oc2, od2, .func (PySem.W.fnOf "_law_plan" "_law_plan" (defArgs s__law_plan) (defBody s__law_plan) (defScope s__law_plan) .none kV2 dc2 pm2 an2 cd2 ct2), sl2⟩) (c2 : PySem.W.codeIn K cd2 "_law_plan" = true) (k2 : PySem.W.keepIn K (.ref f2) = true)
    (a3 : PySem.W.nsIn K mainGlobals "_law_error" = some (some (.ref f3))) (l3 : K.lookup f3 = some ⟨oc3, od3, .func (PySem.W.fnOf "_law_error" "_law_error" (defArgs s__law_error) (defBody s__law_error) (defScope s__law_error) .none kV3 dc3 pm3 an3 cd3 ct3), sl3⟩) (c3 : PySem.W.codeIn K cd3 "_law_error" = true) (k3 : PySem.W.keepIn K (.ref f3) = true)
    (a4 : PySem.W.nsIn K mainGlobals "is_row" = some (some (.ref f4))) (l4 : K.lookup f4 = some ⟨oc4, od4, .func (PySem.W.fnOf "is_row" "is_row" (defArgs s_is_row) (defBody s_is_row) (defScope s_is_row) .none kV4 dc4 pm4 an4 cd4 ct4), sl4⟩) (c4 : PySem.W.codeIn K cd4 "is_row" = true) (k4 : PySem.W.keepIn K (.ref f4) = true)
    (a5 : PySem.W.nsIn K mainGlobals "is_whole" = some (some (.ref f5))) (l5 : K.lookup f5 = some ⟨oc5, od5, .func (PySem.W.fnOf "is_whole" "is_whole" (defArgs s_is_whole) (defBody s_is_whole) (defScope s_is_whole) .none kV5 dc5 pm5 an5 cd5 ct5), sl5⟩) (c5 : PySem.W.codeIn K cd5 "is_whole" = true) (k5 : PySem.W.keepIn K (.ref f5) = true)
    (a6 : PySem.W.nsIn K mainGlobals "is_span" = some (some (.ref f6))) (l6 : K.lookup f6 = some ⟨oc6, od6, .func (PySem.W.fnOf "is_span" "is_span" (defArgs s_is_span) (defBody s_is_span) (defScope s_is_span) .none kV6 dc6 pm6 an6 cd6 ct6), sl6⟩) (c6 : PySem.W.codeIn K cd6 "is_span" = true) (k6 : PySem.W.keepIn K (.ref f6) = true)
    (a7 : PySem.W.nsIn K mainGlobals "is_letter" = some (some (.ref f7))) (l7 : K.lookup f7 = some ⟨oc7, od7, .func (PySem.W.fnOf "is_letter" "is_letter" (defArgs s_is_letter) (defBody s_is_letter) (defScope s_is_letter) .none kV7 dc7 pm7 an7 cd7 ct7), sl7⟩) (c7 : PySem.W.codeIn K cd7 "is_letter" = true) (k7 : PySem.W.keepIn K (.ref f7) = true)
    (a8 : PySem.W.nsIn K mainGlobals "is_write" = some (some (.ref f8))) (l8 : K.lookup f8 = some ⟨oc8, od8, .func (PySem.W.fnOf "is_write" "is_write" (defArgs s_is_write) (defBody s_is_write) (defScope s_is_write) .none kV8 dc8 pm8 an8 cd8 ct8), sl8⟩) (c8 : PySem.W.codeIn K cd8 "is_write" = true) (k8 : PySem.W.keepIn K (.ref f8) = true)
    (a9 : PySem.W.nsIn K mainGlobals "is_plan" = some (some (.ref f9))) (l9 : K.lookup f9 = some ⟨oc9, od9, .func (PySem.W.fnOf "is_plan" "is_plan" (defArgs s_is_plan) (defBody s_is_plan) (defScope s_is_plan) .none kV9 dc9 pm9 an9 cd9 ct9), sl9⟩) (c9 : PySem.W.codeIn K cd9 "is_plan" = true) (k9 : PySem.W.keepIn K (.ref f9) = true)
    (a10 : PySem.W.nsIn K mainGlobals "check_plan" = some (some (.ref f10))) (l10 : K.lookup f10 = some ⟨oc10, od10, .func (PySem.W.fnOf "check_plan" "check_plan" (defArgs s_check_plan) (defBody s_check_plan) (defScope s_check_plan) .none kV10 dc10 pm10 an10 cd10 ct10), sl10⟩) (c10 : PySem.W.codeIn K cd10 "check_plan" = true) (k10 : PySem.W.keepIn K (.ref f10) = true)
    (a11 : PySem.W.nsIn K mainGlobals "are_rests" = some (some (.ref f11))) (l11 : K.lookup f11 = some ⟨oc11, od11, .func (PySem.W.fnOf "are_rests" "are_rests" (defArgs s_are_rests) (defBody s_are_rests) (defScope s_are_rests) .none kV11 dc11 pm11 an11 cd11 ct11), sl11⟩) (c11 : PySem.W.codeIn K cd11 "are_rests" = true) (k11 : PySem.W.keepIn K (.ref f11) = true)
    (a12 : PySem.W.nsIn K mainGlobals "rest_bounds" = some (some (.ref f12))) (l12 : K.lookup f12 = some ⟨oc12, od12, .func (PySem.W.fnOf "rest_bounds" "rest_bounds" (defArgs s_rest_bounds) (defBody s_rest_bounds) (defScope s_rest_bounds) .none kV12 dc12 pm12 an12 cd12 ct12), sl12⟩) (c12 : PySem.W.codeIn K cd12 "rest_bounds" = true) (k12 : PySem.W.keepIn K (.ref f12) = true)
    (a13 : PySem.W.nsIn K mainGlobals "is_pace" = some (some (.ref f13))) (l13 : K.lookup f13 = some ⟨oc13, od13, .func (PySem.W.fnOf "is_pace" "is_pace" (defArgs s_is_pace) (defBody s_is_pace) (defScope s_is_pace) .none kV13 dc13 pm13 an13 cd13 ct13), sl13⟩) (c13 : PySem.W.codeIn K cd13 "is_pace" = true) (k13 : PySem.W.keepIn K (.ref f13) = true)
    (a14 : PySem.W.nsIn K mainGlobals "check_pace" = some (some (.ref f14))) (l14 : K.lookup f14 = some ⟨oc14, od14, .func (PySem.W.fnOf "check_pace" "check_pace" (defArgs s_check_pace) (defBody s_check_pace) (defScope s_check_pace) .none kV14 dc14 pm14 an14 cd14 ct14), sl14⟩) (c14 : PySem.W.codeIn K cd14 "check_pace" = true) (k14 : PySem.W.keepIn K (.ref f14) = true)
    (a15 : PySem.W.nsIn K mainGlobals "summed" = some (some (.ref f15))) (l15 : K.lookup f15 = some ⟨oc15, od15, .func (PySem.W.fnOf "summed" "summed" (defArgs s_summed) (defBody s_summed) (defScope s_summed) .none kV15 dc15 pm15 an15 cd15 ct15), sl15⟩) (c15 : PySem.W.codeIn K cd15 "summed" = true) (k15 : PySem.W.keepIn K (.ref f15) = true)
    (a16 : PySem.W.nsIn K mainGlobals "ticks" = some (some (.ref f16))) (l16 : K.lookup f16 = some ⟨oc16, od16, .func (PySem.W.fnOf "ticks" "ticks" (defArgs s_ticks) (defBody s_ticks) (defScope s_ticks) .none kV16 dc16 pm16 an16 cd16 ct16), sl16⟩) (c16 : PySem.W.codeIn K cd16 "ticks" = true) (k16 : PySem.W.keepIn K (.ref f16) = true)
    (a17 : PySem.W.nsIn K mainGlobals "check_cell" = some (some (.ref f17))) (l17 : K.lookup f17 = some ⟨oc17, od17, .func (PySem.W.fnOf "check_cell" "check_cell" (defArgs s_check_cell) (defBody s_check_cell) (defScope s_check_cell) .none kV17 dc17 pm17 an17 cd17 ct17), sl17⟩) (c17 : PySem.W.codeIn K cd17 "check_cell" = true) (k17 : PySem.W.keepIn K (.ref f17) = true)
    (a18 : PySem.W.nsIn K mainGlobals "check_tick" = some (some (.ref f18))) (l18 : K.lookup f18 = some ⟨oc18, od18, .func (PySem.W.fnOf "check_tick" "check_tick" (defArgs s_check_tick) (defBody s_check_tick) (defScope s_check_tick) .none kV18 dc18 pm18 an18 cd18 ct18), sl18⟩) (c18 : PySem.W.codeIn K cd18 "check_tick" = true) (k18 : PySem.W.keepIn K (.ref f18) = true)
    (a19 : PySem.W.nsIn K mainGlobals "sign_at" = some (some (.ref f19))) (l19 : K.lookup f19 = some ⟨oc19, od19, .func (PySem.W.fnOf "sign_at" "sign_at" (defArgs s_sign_at) (defBody s_sign_at) (defScope s_sign_at) .none kV19 dc19 pm19 an19 cd19 ct19), sl19⟩) (c19 : PySem.W.codeIn K cd19 "sign_at" = true) (k19 : PySem.W.keepIn K (.ref f19) = true)
    (a20 : PySem.W.nsIn K mainGlobals "seen" = some (some (.ref f20))) (l20 : K.lookup f20 = some ⟨oc20, od20, .func (PySem.W.fnOf "seen" "seen" (defArgs s_seen) (defBody s_seen) (defScope s_seen) .none kV20 dc20 pm20 an20 cd20 ct20), sl20⟩) (c20 : PySem.W.codeIn K cd20 "seen" = true) (k20 : PySem.W.keepIn K (.ref f20) = true)
    (a21 : PySem.W.nsIn K mainGlobals "board" = some (some (.ref f21))) (l21 : K.lookup f21 = some ⟨oc21, od21, .func (PySem.W.fnOf "board" "board" (defArgs s_board) (defBody s_board) (defScope s_board) .none kV21 dc21 pm21 an21 cd21 ct21), sl21⟩) (c21 : PySem.W.codeIn K cd21 "board" = true) (k21 : PySem.W.keepIn K (.ref f21) = true)
    (a22 : PySem.W.nsIn K mainGlobals "story" = some (some (.ref f22))) (l22 : K.lookup f22 = some ⟨oc22, od22, .func (PySem.W.fnOf "story" "story" (defArgs s_story) (defBody s_story) (defScope s_story) .none kV22 dc22 pm22 an22 cd22 ct22), sl22⟩) (c22 : PySem.W.codeIn K cd22 "story" = true) (k22 : PySem.W.keepIn K (.ref f22) = true)
    (a23 : PySem.W.nsIn K mainGlobals "can_see" = some (some (.ref f23))) (l23 : K.lookup f23 = some ⟨oc23, od23, .func (PySem.W.fnOf "can_see" "can_see" (defArgs s_can_see) (defBody s_can_see) (defScope s_can_see) .none kV23 dc23 pm23 an23 cd23 ct23), sl23⟩) (c23 : PySem.W.codeIn K cd23 "can_see" = true) (k23 : PySem.W.keepIn K (.ref f23) = true)
    (a24 : PySem.W.nsIn K mainGlobals "is_sign" = some (some (.ref f24))) (l24 : K.lookup f24 = some ⟨oc24, od24, .func (PySem.W.fnOf "is_sign" "is_sign" (defArgs s_is_sign) (defBody s_is_sign) (defScope s_is_sign) .none kV24 dc24 pm24 an24 cd24 ct24), sl24⟩) (c24 : PySem.W.codeIn K cd24 "is_sign" = true) (k24 : PySem.W.keepIn K (.ref f24) = true)
    (a25 : PySem.W.nsIn K mainGlobals "sure" = some (some (.ref f25))) (l25 : K.lookup f25 = some ⟨oc25, od25, .func (PySem.W.fnOf "sure" "sure" (defArgs s_sure) (defBody s_sure) (defScope s_sure) .none kV25 dc25 pm25 an25 cd25 ct25), sl25⟩) (c25 : PySem.W.codeIn K cd25 "sure" = true) (k25 : PySem.W.keepIn K (.ref f25) = true)
    (a26 : PySem.W.nsIn K mainGlobals "check_rounds" = some (some (.ref f26))) (l26 : K.lookup f26 = some ⟨oc26, od26, .func (PySem.W.fnOf "check_rounds" "check_rounds" (defArgs s_check_rounds) (defBody s_check_rounds) (defScope s_check_rounds) .none kV26 dc26 pm26 an26 cd26 ct26), sl26⟩) (c26 : PySem.W.codeIn K cd26 "check_rounds" = true) (k26 : PySem.W.keepIn K (.ref f26) = true)
    (a27 : PySem.W.nsIn K mainGlobals "settled" = some (some (.ref f27))) (l27 : K.lookup f27 = some ⟨oc27, od27, .func (PySem.W.fnOf "settled" "settled" (defArgs s_settled) (defBody s_settled) (defScope s_settled) .none kV27 dc27 pm27 an27 cd27 ct27), sl27⟩) (c27 : PySem.W.codeIn K cd27 "settled" = true) (k27 : PySem.W.keepIn K (.ref f27) = true)
    (a28 : PySem.W.nsIn K mainGlobals "needless" = some (some (.ref f28))) (l28 : K.lookup f28 = some ⟨oc28, od28, .func (PySem.W.fnOf "needless" "needless" (defArgs s_needless) (defBody s_needless) (defScope s_needless) .none kV28 dc28 pm28 an28 cd28 ct28), sl28⟩) (c28 : PySem.W.codeIn K cd28 "needless" = true) (k28 : PySem.W.keepIn K (.ref f28) = true)
    (a29 : PySem.W.nsIn K mainGlobals "check_like" = some (some (.ref f29))) (l29 : K.lookup f29 = some ⟨oc29, od29, .func (PySem.W.fnOf "check_like" "check_like" (defArgs s_check_like) (defBody s_check_like) (defScope s_check_like) .none kV29 dc29 pm29 an29 cd29 ct29), sl29⟩) (c29 : PySem.W.codeIn K cd29 "check_like" = true) (k29 : PySem.W.keepIn K (.ref f29) = true)
    (a30 : PySem.W.nsIn K mainGlobals "are_alike" = some (some (.ref f30))) (l30 : K.lookup f30 = some ⟨oc30, od30, .func (PySem.W.fnOf "are_alike" "are_alike" (defArgs s_are_alike) (defBody s_are_alike) (defScope s_are_alike) .none kV30 dc30 pm30 an30 cd30 ct30), sl30⟩) (c30 : PySem.W.codeIn K cd30 "are_alike" = true) (k30 : PySem.W.keepIn K (.ref f30) = true)
    (a31 : PySem.W.nsIn K mainGlobals "parting" = some (some (.ref f31))) (l31 : K.lookup f31 = some ⟨oc31, od31, .func (PySem.W.fnOf "parting" "parting" (defArgs s_parting) (defBody s_parting) (defScope s_parting) .none kV31 dc31 pm31 an31 cd31 ct31), sl31⟩) (c31 : PySem.W.codeIn K cd31 "parting" = true) (k31 : PySem.W.keepIn K (.ref f31) = true)
    (a32 : PySem.W.nsIn K mainGlobals "least_stay" = some (some (.ref f32))) (l32 : K.lookup f32 = some ⟨oc32, od32, .func (PySem.W.fnOf "least_stay" "least_stay" (defArgs s_least_stay) (defBody s_least_stay) (defScope s_least_stay) .none kV32 dc32 pm32 an32 cd32 ct32), sl32⟩) (c32 : PySem.W.codeIn K cd32 "least_stay" = true) (k32 : PySem.W.keepIn K (.ref f32) = true)
    (a33 : PySem.W.nsIn K mainGlobals "law" = some (some (.ref f33))) (l33 : K.lookup f33 = some ⟨oc33, od33, .func (PySem.W.fnOf "law" "law" (defArgs s_law) (defBody s_law) (defScope s_law) .none kV33 dc33 pm33 an33 (.ref cc) ct33), sl33⟩) (c33 : PySem.W.codeIn K (.ref cc) "law" = true) (k33 : PySem.W.keepIn K (.ref f33) = true)
    (m0 : PySem.W.nsIn K mainGlobals "BARE" = some (some (.str "." tk0)))
    (z0 : PySem.W.nsIn K mainGlobals "len" = some none)    (z1 : PySem.W.nsIn K mainGlobals "isinstance" = some none)    (z2 : PySem.W.nsIn K mainGlobals "int" = some none)    (z3 : PySem.W.nsIn K mainGlobals "bool" = some none)    (z4 : PySem.W.nsIn K mainGlobals "str" = some none)    (z5 : PySem.W.nsIn K mainGlobals "tuple" = some none)    (z6 : PySem.W.nsIn K mainGlobals "list" = some none)    (z7 : PySem.W.nsIn K mainGlobals "dict" = some none)    (z8 : PySem.W.nsIn K mainGlobals "set" = some none)    (z9 : PySem.W.nsIn K mainGlobals "all" = some none)    (z10 : PySem.W.nsIn K mainGlobals "any" = some none)    (z11 : PySem.W.nsIn K mainGlobals "zip" = some none)    (z12 : PySem.W.nsIn K mainGlobals "range" = some none)    (z13 : PySem.W.nsIn K mainGlobals "enumerate" = some none)    (z14 : PySem.W.nsIn K mainGlobals "sorted" = some none)    (z15 : PySem.W.nsIn K mainGlobals "min" = some none)    (z16 : PySem.W.nsIn K mainGlobals "max" = some none)    (z17 : PySem.W.nsIn K mainGlobals "sum" = some none)    (xgBadPlan : PySem.W.nsIn K mainGlobals "BadPlan" = some (some (.ref e_BadPlan))) (xxBadPlan : PySem.W.excIn K e_BadPlan [.type "ValueError", .type "Exception", .type "BaseException", .type "object"] "ValueError.__new__" = true) (xkBadPlan : PySem.W.keepIn K (.ref e_BadPlan) = true) (xbBadPlan : PySem.W.subIn K (.ref e_BadPlan) (.type "BaseException") = some true) (xtBadPlan : PySem.W.typeIn K (.ref e_BadPlan) = some (.type "type"))
    (xgBadPace : PySem.W.nsIn K mainGlobals "BadPace" = some (some (.ref e_BadPace))) (xxBadPace : PySem.W.excIn K e_BadPace [.type "ValueError", .type "Exception", .type "BaseException", .type "object"] "ValueError.__new__" = true) (xkBadPace : PySem.W.keepIn K (.ref e_BadPace) = true) (xbBadPace : PySem.W.subIn K (.ref e_BadPace) (.type "BaseException") = some true) (xtBadPace : PySem.W.typeIn K (.ref e_BadPace) = some (.type "type"))
    (xgNoCell : PySem.W.nsIn K mainGlobals "NoCell" = some (some (.ref e_NoCell))) (xxNoCell : PySem.W.excIn K e_NoCell [.type "ValueError", .type "Exception", .type "BaseException", .type "object"] "ValueError.__new__" = true) (xkNoCell : PySem.W.keepIn K (.ref e_NoCell) = true) (xbNoCell : PySem.W.subIn K (.ref e_NoCell) (.type "BaseException") = some true) (xtNoCell : PySem.W.typeIn K (.ref e_NoCell) = some (.type "type"))
    (xgBadTick : PySem.W.nsIn K mainGlobals "BadTick" = some (some (.ref e_BadTick))) (xxBadTick : PySem.W.excIn K e_BadTick [.type "ValueError", .type "Exception", .type "BaseException", .type "object"] "ValueError.__new__" = true) (xkBadTick : PySem.W.keepIn K (.ref e_BadTick) = true) (xbBadTick : PySem.W.subIn K (.ref e_BadTick) (.type "BaseException") = some true) (xtBadTick : PySem.W.typeIn K (.ref e_BadTick) = some (.type "type"))
    (xgNoSign : PySem.W.nsIn K mainGlobals "NoSign" = some (some (.ref e_NoSign))) (xxNoSign : PySem.W.excIn K e_NoSign [.type "ValueError", .type "Exception", .type "BaseException", .type "object"] "ValueError.__new__" = true) (xkNoSign : PySem.W.keepIn K (.ref e_NoSign) = true) (xbNoSign : PySem.W.subIn K (.ref e_NoSign) (.type "BaseException") = some true) (xtNoSign : PySem.W.typeIn K (.ref e_NoSign) = some (.type "type"))
    (xgNoInk : PySem.W.nsIn K mainGlobals "NoInk" = some (some (.ref e_NoInk))) (xxNoInk : PySem.W.excIn K e_NoInk [.type "ValueError", .type "Exception", .type "BaseException", .type "object"] "ValueError.__new__" = true) (xkNoInk : PySem.W.keepIn K (.ref e_NoInk) = true) (xbNoInk : PySem.W.subIn K (.ref e_NoInk) (.type "BaseException") = some true) (xtNoInk : PySem.W.typeIn K (.ref e_NoInk) = some (.type "type"))
    (xgUnlike : PySem.W.nsIn K mainGlobals "Unlike" = some (some (.ref e_Unlike))) (xxUnlike : PySem.W.excIn K e_Unlike [.type "ValueError", .type "Exception", .type "BaseException", .type "object"] "ValueError.__new__" = true) (xkUnlike : PySem.W.keepIn K (.ref e_Unlike) = true) (xbUnlike : PySem.W.subIn K (.ref e_Unlike) (.type "BaseException") = some true) (xtUnlike : PySem.W.typeIn K (.ref e_Unlike) = some (.type "type"))
    (xgInkError : PySem.W.nsIn K mainGlobals "InkError" = some (some (.ref e_InkError))) (xxInkError : PySem.W.excIn K e_InkError [.type "ValueError", .type "Exception", .type "BaseException", .type "object"] "ValueError.__new__" = true) (xkInkError : PySem.W.keepIn K (.ref e_InkError) = true) (xbInkError : PySem.W.subIn K (.ref e_InkError) (.type "BaseException") = some true) (xtInkError : PySem.W.typeIn K (.ref e_InkError) = some (.type "type"))
    (xcBadPlan : caughtBy K (clauses ⟨e_BadPlan, e_BadPace, e_NoCell, e_BadTick, e_NoSign, e_NoInk, e_Unlike, e_InkError⟩) e_BadPlan = some ("BadPlan" : Str))
    (xcBadPace : caughtBy K (clauses ⟨e_BadPlan, e_BadPace, e_NoCell, e_BadTick, e_NoSign, e_NoInk, e_Unlike, e_InkError⟩) e_BadPace = some ("BadPace" : Str))
    (xcNoCell : caughtBy K (clauses ⟨e_BadPlan, e_BadPace, e_NoCell, e_BadTick, e_NoSign, e_NoInk, e_Unlike, e_InkError⟩) e_NoCell = some ("NoCell" : Str))
    (xcBadTick : caughtBy K (clauses ⟨e_BadPlan, e_BadPace, e_NoCell, e_BadTick, e_NoSign, e_NoInk, e_Unlike, e_InkError⟩) e_BadTick = some ("BadTick" : Str))
    (xcNoSign : caughtBy K (clauses ⟨e_BadPlan, e_BadPace, e_NoCell, e_BadTick, e_NoSign, e_NoInk, e_Unlike, e_InkError⟩) e_NoSign = some ("NoSign" : Str))
    (xcNoInk : caughtBy K (clauses ⟨e_BadPlan, e_BadPace, e_NoCell, e_BadTick, e_NoSign, e_NoInk, e_Unlike, e_InkError⟩) e_NoInk = some ("NoInk" : Str))
    (xcUnlike : caughtBy K (clauses ⟨e_BadPlan, e_BadPace, e_NoCell, e_BadTick, e_NoSign, e_NoInk, e_Unlike, e_InkError⟩) e_Unlike = some ("Unlike" : Str))
    (hqx : (("law" : Str) ++ ".<locals>.") ++ "<lambda>" = nmOf K Pt) (hcH : PySem.W.codeHdIn K cc Pt = true) (hnT : K.lookup Pt = none) :
    LamX.LawAtS l w K L2.CX0 11 63 "script" mg fa h := by
  have e := hfa.symm.trans (PySem.W.mg_of X G a33)
  cases e
  have B : Blt mg := ⟨PySem.W.mg_none_of X G z0, PySem.W.mg_none_of X G z1, PySem.W.mg_none_of X G z2, PySem.W.mg_none_of X G z3, PySem.W.mg_none_of X G z4, PySem.W.mg_none_of X G z5, PySem.W.mg_none_of X G z6, PySem.W.mg_none_of X G z7, PySem.W.mg_none_of X G z8, PySem.W.mg_none_of X G z9, PySem.W.mg_none_of X G z10, PySem.W.mg_none_of X G z11, PySem.W.mg_none_of X G z12, PySem.W.mg_none_of X G z13, PySem.W.mg_none_of X G z14, PySem.W.mg_none_of X G z15, PySem.W.mg_none_of X G z16, PySem.W.mg_none_of X G z17⟩
  have XF : XC K mg ⟨e_BadPlan, e_BadPace, e_NoCell, e_BadTick, e_NoSign, e_NoInk, e_Unlike, e_InkError⟩ := ⟨PySem.W.mg_of X G xgBadPlan, xxBadPlan, xkBadPlan, xbBadPlan, xtBadPlan, PySem.W.mg_of X G xgBadPace, xxBadPace, xkBadPace, xbBadPace, xtBadPace, PySem.W.mg_of X G xgNoCell, xxNoCell, xkNoCell, xbNoCell, xtNoCell, PySem.W.mg_of X G xgBadTick, xxBadTick, xkBadTick, xbBadTick, xtBadTick, PySem.W.mg_of X G xgNoSign, xxNoSign, xkNoSign, xbNoSign, xtNoSign, PySem.W.mg_of X G xgNoInk, xxNoInk, xkNoInk, xbNoInk, xtNoInk, PySem.W.mg_of X G xgUnlike, xxUnlike, xkUnlike, xbUnlike, xtUnlike, PySem.W.mg_of X G xgInkError, xxInkError, xkInkError, xbInkError, xtInkError⟩
  have hx : XT K ⟨e_BadPlan, e_BadPace, e_NoCell, e_BadTick, e_NoSign, e_NoInk, e_Unlike, e_InkError⟩ := ⟨xcBadPlan, xcBadPace, xcNoCell, xcBadTick, xcNoSign, xcNoInk, xcUnlike⟩
  have D__law_taken := df_mk (st := s__law_taken) (ps := ["row", "many"]) X G a0 l0 c0 k0 fun _ _ _ _ _ _ us hl => match us, hl with | [_, _], _ => rfl
  have D__law_pick := df_mk (st := s__law_pick) (ps := ["row", "things"]) X G a1 l1 c1 k1 fun _ _ _ _ _ _ us hl => match us, hl with | [_, _], _ => rfl
  have D__law_plan := df_mk (st := s__law_plan) (ps := ["row", "most", "wide"]) X G a2 l2 c2 k2 fun _ _ _ _ _ _ us hl => match us, hl with | [_, _, _], _ => rfl
  have D__law_error := df_mk (st := s__law_error) (ps := ["call"]) X G a3 l3 c3 k3 fun _ _ _ _ _ _ us hl => match us, hl with | [_], _ => rfl
  have D_is_row := df_mk (st := s_is_row) (ps := ["value", "least", "most"]) X G a4 l4 c4 k4 fun _ _ _ _ _ _ us hl => match us, hl with | [_, _, _], _ => rfl
  have D_is_whole := df_mk (st := s_is_whole) (ps := ["value", "low", "high"]) X G a5 l5 c5 k5 fun _ _ _ _ _ _ us hl => match us, hl with | [_, _, _], _ => rfl
  have D_is_span := df_mk (st := s_is_span) (ps := ["low", "high", "most"]) X G a6 l6 c6 k6 fun _ _ _ _ _ _ us hl => match us, hl with | [_, _, _], _ => rfl
  have D_is_letter := df_mk (st := s_is_letter) (ps := ["value"]) X G a7 l7 c7 k7 fun _ _ _ _ _ _ us hl => match us, hl with | [_], _ => rfl
  have D_is_write := df_mk (st := s_is_write) (ps := ["value", "cells", "inks"]) X G a8 l8 c8 k8 fun _ _ _ _ _ _ us hl => match us, hl with | [_, _, _], _ => rfl
  have D_is_plan := df_mk (st := s_is_plan) (ps := ["value"]) X G a9 l9 c9 k9 fun _ _ _ _ _ _ us hl => match us, hl with | [_], _ => rfl
  have D_check_plan := df_mk (st := s_check_plan) (ps := ["plan"]) X G a10 l10 c10 k10 fun _ _ _ _ _ _ us hl => match us, hl with | [_], _ => rfl
  have D_are_rests := df_mk (st := s_are_rests) (ps := ["value", "bounds"]) X G a11 l11 c11 k11 fun _ _ _ _ _ _ us hl => match us, hl with | [_, _], _ => rfl
  have D_rest_bounds := df_mk (st := s_rest_bounds) (ps := ["plan"]) X G a12 l12 c12 k12 fun _ _ _ _ _ _ us hl => match us, hl with | [_], _ => rfl
  have D_is_pace := df_mk (st := s_is_pace) (ps := ["plan", "value"]) X G a13 l13 c13 k13 fun _ _ _ _ _ _ us hl => match us, hl with | [_, _], _ => rfl
  have D_check_pace := df_mk (st := s_check_pace) (ps := ["plan", "pace"]) X G a14 l14 c14 k14 fun _ _ _ _ _ _ us hl => match us, hl with | [_, _], _ => rfl
  have D_summed := df_mk (st := s_summed) (ps := ["start", "rests"]) X G a15 l15 c15 k15 fun _ _ _ _ _ _ us hl => match us, hl with | [_, _], _ => rfl
  have D_ticks := df_mk (st := s_ticks) (ps := ["plan", "pace"]) X G a16 l16 c16 k16 fun _ _ _ _ _ _ us hl => match us, hl with | [_, _], _ => rfl
  have D_check_cell := df_mk (st := s_check_cell) (ps := ["plan", "cell"]) X G a17 l17 c17 k17 fun _ _ _ _ _ _ us hl => match us, hl with | [_, _], _ => rfl
  have D_check_tick := df_mk (st := s_check_tick) (ps := ["tick", "most"]) X G a18 l18 c18 k18 fun _ _ _ _ _ _ us hl => match us, hl with | [_, _], _ => rfl
  have D_sign_at := df_mk (st := s_sign_at) (ps := ["plan", "times", "cell", "tick"]) X G a19 l19 c19 k19 fun _ _ _ _ _ _ us hl => match us, hl with | [_, _, _, _], _ => rfl
  have D_seen := df_mk (st := s_seen) (ps := ["plan", "pace", "cell", "tick"]) X G a20 l20 c20 k20 fun _ _ _ _ _ _ us hl => match us, hl with | [_, _, _, _], _ => rfl
  have D_board := df_mk (st := s_board) (ps := ["plan", "pace", "tick"]) X G a21 l21 c21 k21 fun _ _ _ _ _ _ us hl => match us, hl with | [_, _, _], _ => rfl
  have D_story := df_mk (st := s_story) (ps := ["plan", "pace", "cell", "last"]) X G a22 l22 c22 k22 fun _ _ _ _ _ _ us hl => match us, hl with | [_, _, _, _], _ => rfl
  have D_can_see := df_mk (st := s_can_see) (ps := ["plan", "cell", "tick"]) X G a23 l23 c23 k23 fun _ _ _ _ _ _ us hl => match us, hl with | [_, _, _], _ => rfl
  have D_is_sign := df_mk (st := s_is_sign) (ps := ["value"]) X G a24 l24 c24 k24 fun _ _ _ _ _ _ us hl => match us, hl with | [_], _ => rfl
  have D_sure := df_mk (st := s_sure) (ps := ["plan", "cell", "sign", "last"]) X G a25 l25 c25 k25 fun _ _ _ _ _ _ us hl => match us, hl with | [_, _, _, _], _ => rfl
  have D_check_rounds := df_mk (st := s_check_rounds) (ps := ["plan"]) X G a26 l26 c26 k26 fun _ _ _ _ _ _ us hl => match us, hl with | [_], _ => rfl
  have D_settled := df_mk (st := s_settled) (ps := ["plan"]) X G a27 l27 c27 k27 fun _ _ _ _ _ _ us hl => match us, hl with | [_], _ => rfl
  have D_needless := df_mk (st := s_needless) (ps := ["plan"]) X G a28 l28 c28 k28 fun _ _ _ _ _ _ us hl => match us, hl with | [_], _ => rfl
  have D_check_like := df_mk (st := s_check_like) (ps := ["plan", "other"]) X G a29 l29 c29 k29 fun _ _ _ _ _ _ us hl => match us, hl with | [_, _], _ => rfl
  have D_are_alike := df_mk (st := s_are_alike) (ps := ["plan", "other"]) X G a30 l30 c30 k30 fun _ _ _ _ _ _ us hl => match us, hl with | [_, _], _ => rfl
  have D_parting := df_mk (st := s_parting) (ps := ["plan", "other"]) X G a31 l31 c31 k31 fun _ _ _ _ _ _ us hl => match us, hl with | [_, _], _ => rfl
  have D_least_stay := df_mk (st := s_least_stay) (ps := ["plan", "ink"]) X G a32 l32 c32 k32 fun _ _ _ _ _ _ us hl => match us, hl with | [_, _], _ => rfl
  have m_BARE := (⟨_, PySem.W.mg_of X G m0⟩ : ∃ t, mg "BARE" = some (.str "." t))
  refine ⟨PySem.W.fnOf "law" "law" (defArgs s_law) (defBody s_law) (defScope s_law) .none kV33 dc33 pm33 an33 (.ref cc) ct33, [(cc, Pt)], spLawT K Pt, ?_, ?_, ?_, fun s v => .of_eq rfl, ?_, fun base _ _ hTB => ?_⟩
  · intro p hp; rw [List.mem_singleton] at hp; subst hp; exact hPt
  · intro p hp; rw [List.mem_singleton] at hp; subst hp; exact hnT
  · intro p hp; rw [List.mem_singleton] at hp; subst hp; exact PySem.W.codeHd_of_K X hcH
  · intro H a ns hl _ hT hS; exact ⟨a, ns, rfl, hS, hl, hT _ (List.mem_singleton_self _), fun _ => rfl⟩
  have TBx := hTB _ (List.mem_singleton_self _)
  have G__law_taken := ok__law_taken (P' := l.prog) (w := w) (base := base) D__law_taken.fn B
  have G__law_pick := ok__law_pick (P := l.prog) (w := w) (base := base) D__law_pick.fn B D__law_taken G__law_taken
  have G__law_plan := ok__law_plan (P := l.prog) (w := w) (base := base) D__law_plan.fn B D__law_taken G__law_taken D__law_pick G__law_pick
  have G_is_row := ok_is_row (P := l.prog) (w := w) (base := base) D_is_row.fn B
  have G_is_whole := ok_is_whole (P := l.prog) (w := w) (base := base) D_is_whole.fn B
  have G_is_span := ok_is_span (P := l.prog) (w := w) (base := base) D_is_span.fn B D_is_whole G_is_whole
  have G_is_letter := ok_is_letter (P := l.prog) (w := w) (base := base) D_is_letter.fn B
  have G_is_write := ok_is_write (P := l.prog) (w := w) (base := base) D_is_write.fn B D_is_span G_is_span D_is_row G_is_row D_is_whole G_is_whole D_is_letter G_is_letter
  have G_is_plan := ok_is_plan (P := l.prog) (w := w) (base := base) D_is_plan.fn B D_is_row G_is_row D_is_whole G_is_whole D_is_write G_is_write
  have GX_check_plan := okx_check_plan (P := l.prog) (w := w) (base := base) D_check_plan.fn B XF D_is_plan G_is_plan
  have G_are_rests := ok_are_rests (P := l.prog) (w := w) (base := base) D_are_rests.fn B D_is_row G_is_row D_is_whole G_is_whole
  have G_rest_bounds := ok_rest_bounds (P := l.prog) (w := w) (base := base) D_rest_bounds.fn B
  have G_is_pace := ok_is_pace (P := l.prog) (w := w) (base := base) D_is_pace.fn B D_are_rests G_are_rests D_rest_bounds G_rest_bounds
  have GX_check_pace := okx_check_pace (P := l.prog) (w := w) (base := base) D_check_pace.fn B XF D_is_pace G_is_pace
  have G_summed := ok_summed (P := l.prog) (w := w) (base := base) D_summed.fn B
  have GX_ticks := okx_ticks (P := l.prog) (w := w) (base := base) D_ticks.fn B XF D_check_plan GX_check_plan D_check_pace GX_check_pace
  have GX_check_cell := okx_check_cell (P := l.prog) (w := w) (base := base) D_check_cell.fn B XF D_is_whole G_is_whole
  have GX_check_tick := okx_check_tick (P := l.prog) (w := w) (base := base) D_check_tick.fn B XF D_is_whole G_is_whole
  have G_sign_at := ok_sign_at (P := l.prog) (w := w) (base := base) D_sign_at.fn B m_BARE
  have GX_seen := okx_seen (P := l.prog) (w := w) (base := base) D_seen.fn B XF D_sign_at G_sign_at D_summed G_summed D_check_plan GX_check_plan D_check_pace GX_check_pace D_check_cell GX_check_cell D_check_tick GX_check_tick
  have GX_board := okx_board (P := l.prog) (w := w) (base := base) D_board.fn B XF D_check_plan GX_check_plan D_check_pace GX_check_pace D_check_tick GX_check_tick
  have GX_story := okx_story (P := l.prog) (w := w) (base := base) D_story.fn B XF D_check_plan GX_check_plan D_check_pace GX_check_pace D_check_cell GX_check_cell D_check_tick GX_check_tick
  have GX_can_see := okx_can_see (P := l.prog) (w := w) (base := base) D_can_see.fn B XF D_check_plan GX_check_plan D_check_cell GX_check_cell D_check_tick GX_check_tick
  have G_is_sign := ok_is_sign (P := l.prog) (w := w) (base := base) D_is_sign.fn B D_is_letter G_is_letter m_BARE
  have GX_sure := okx_sure (P := l.prog) (w := w) (base := base) D_sure.fn B XF D_is_sign G_is_sign D_check_plan GX_check_plan D_check_cell GX_check_cell D_check_tick GX_check_tick
  have GX_check_rounds := okx_check_rounds (P := l.prog) (w := w) (base := base) D_check_rounds.fn B XF D_check_plan GX_check_plan
  have GX_settled := okx_settled (P := l.prog) (w := w) (base := base) D_settled.fn B XF D_check_rounds GX_check_rounds
  have GX_needless := okx_needless (P := l.prog) (w := w) (base := base) D_needless.fn B XF D_check_plan GX_check_plan
  have GX_check_like := okx_check_like (P := l.prog) (w := w) (base := base) D_check_like.fn B XF D_rest_bounds G_rest_bounds D_check_plan GX_check_plan
  have GX_are_alike := okx_are_alike (P := l.prog) (w := w) (base := base) D_are_alike.fn B XF D_check_like GX_check_like
  have GX_parting := okx_parting (P := l.prog) (w := w) (base := base) D_parting.fn B XF D_check_like GX_check_like
  have GX_least_stay := okx_least_stay (P := l.prog) (w := w) (base := base) D_least_stay.fn B XF D_is_whole G_is_whole D_check_plan GX_check_plan
  exact law_impT (ok_law (P := l.prog) (w := w) (base := base) B XF D__law_plan G__law_plan D__law_pick G__law_pick D_ticks GX_ticks D_seen GX_seen D_board GX_board D_story GX_story D_can_see GX_can_see D_sure GX_sure D_settled GX_settled D_needless GX_needless D_are_alike GX_are_alike D_parting GX_parting D_least_stay GX_least_stay D__law_error TBx hqx hx l33 c33)
end PF
open PySem PySem.W PyProof.Rows
set_option maxRecDepth 100000 in
set_option maxHeartbeats 0 in
theorem PySem.Challenge.cw_fadinginks_k01_plans_refused_holds : PySem.Challenge.rw_fadinginks_k01_plans_refused.Holds := by
  w_on; o_law
  k_head; (case hw => w_witness2)
  k_fill
  refine LamX.walk_ofTs (l := PySem.Challenge.rw_fadinginks_k01_plans_refused) (n := 63) (k := 11) (x := "script") (CX := fun _ => L2.CX0) rfl (by decide) rfl ⟨rfl, by decide, by decide⟩ (fun w h Y => PySem.W.km_in_of Y) ?F (fun _ _ _ _ _ h => h)
  case F =>
    intro w mg fa h Y KX G hmg
    refine' PF.all_mk (PySem.W.km_tabs_of Y _ (List.mem_cons_self ..)) KX G hmg ?a0 ?l0 ?c0 ?k0 ?a1 ?l1 ?c1 ?k1 ?a2 ?l2 ?c2 ?k2 ?a3 ?l3 ?c3 ?k3 ?a4 ?l4 ?c4 ?k4 ?a5 ?l5 ?c5 ?k5 ?a6 ?l6 ?c6 ?k6 ?a7 ?l7 ?c7 ?k7 ?a8 ?l8 ?c8 ?k8 ?a9 ?l9 ?c9 ?k9 ?a10 ?l10 ?c10 ?k10 ?a11 ?l11 ?c11 ?k11 ?a12 ?l12 ?c12 ?k12 ?a13 ?l13 ?c13 ?k13 ?a14 ?l14 ?c14 ?k14 ?a15 ?l15 ?c15 ?k15 ?a16 ?l16 ?c16 ?k16 ?a17 ?l17 ?c17 ?k17 ?a18 ?l18 ?c18 ?k18 ?a19 ?l19 ?c19 ?k19 ?a20 ?l20 ?c20 ?k20 ?a21 ?l21 ?c21 ?k21 ?a22 ?l22 ?c22 ?k22 ?a23 ?l23 ?c23 ?k23 ?a24 ?l24 ?c24 ?k24 ?a25 ?l25 ?c25 ?k25 ?a26 ?l26 ?c26 ?k26 ?a27 ?l27 ?c27 ?k27 ?a28 ?l28 ?c28 ?k28 ?a29 ?l29 ?c29 ?k29 ?a30 ?l30 ?c30 ?k30 ?a31 ?l31 ?c31 ?k31 ?a32 ?l32 ?c32 ?k32 ?a33 ?l33 ?c33 ?k33 ?m0 ?z0 ?z1 ?z2 ?z3 ?z4 ?z5 ?z6 ?z7 ?z8 ?z9 ?z10 ?z11 ?z12 ?z13 ?z14 ?z15 ?z16 ?z17 ?xgBadPlan ?xxBadPlan ?xkBadPlan ?xbBadPlan ?xtBadPlan ?xgBadPace ?xxBadPace ?xkBadPace ?xbBadPace ?xtBadPace ?xgNoCell ?xxNoCell ?xkNoCell ?xbNoCell ?xtNoCell ?xgBadTick ?xxBadTick ?xkBadTick ?xbBadTick ?xtBadTick ?xgNoSign ?xxNoSign ?xkNoSign ?xbNoSign ?xtNoSign ?xgNoInk ?xxNoInk ?xkNoInk ?xbNoInk ?xtNoInk ?xgUnlike ?xxUnlike ?xkUnlike ?xbUnlike ?xtUnlike ?xgInkError ?xxInkError ?xkInkError ?xbInkError ?xtInkError ?xcBadPlan ?xcBadPace ?xcNoCell ?xcBadTick ?xcNoSign ?xcNoInk ?xcUnlike ?hqx ?hcH ?hnT
    (case a0 => k_is)
    (case l0 => k_is)
    (case c0 => k_is)
    (case k0 => k_is)
    (case a1 => k_is)
    (case l1 => k_is)
    (case c1 => k_is)
    (case k1 => k_is)
    (case a2 => k_is)
    (case l2 => k_is)
    (case c2 => k_is)
    (case k2 => k_is)
    (case a3 => k_is)
    (case l3 => k_is)
    (case c3 => k_is)
    (case k3 => k_is)
    (case a4 => k_is)
    (case l4 => k_is)
    (case c4 => k_is)
    (case k4 => k_is)
    (case a5 => k_is)
    (case l5 => k_is)
    (case c5 => k_is)
    (case k5 => k_is)
    (case a6 => k_is)
    (case l6 => k_is)
    (case c6 => k_is)
    (case k6 => k_is)
    (case a7 => k_is)
    (case l7 => k_is)
    (case c7 => k_is)
    (case k7 => k_is)
    (case a8 => k_is)
    (case l8 => k_is)
    (case c8 => k_is)
    (case k8 => k_is)
    (case a9 => k_is)
    (case l9 => k_is)
    (case c9 => k_is)
    (case k9 => k_is)
    (case a10 => k_is)
    (case l10 => k_is)
    (case c10 => k_is)
    (case k10 => k_is)
    (case a11 => k_is)
    (case l11 => k_is)
    (case c11 => k_is)
    (case k11 => k_is)
    (case a12 => k_is)
    (case l12 => k_is)
    (case c12 => k_is)
    (case k12 => k_is)
    (case a13 => k_is)
    (case l13 => k_is)
    (case c13 => k_is)
    (case k13 => k_is)
    (case a14 => k_is)
    (case l14 => k_is)
    (case c14 => k_is)
    (case k14 => k_is)
    (case a15 => k_is)
    (case l15 => k_is)
    (case c15 => k_is)
    (case k15 => k_is)
    (case a16 => k_is)
    (case l16 => k_is)
    (case c16 => k_is)
    (case k16 => k_is)
    (case a17 => k_is)
    (case l17 => k_is)
    (case c17 => k_is)
    (case k17 => k_is)
    (case a18 => k_is)
    (case l18 => k_is)
    (case c18 => k_is)
    (case k18 => k_is)
    (case a19 => k_is)
    (case l19 => k_is)
    (case c19 => k_is)
    (case k19 => k_is)
    (case a20 => k_is)
    (case l20 => k_is)
    (case c20 => k_is)
    (case k20 => k_is)
    (case a21 => k_is)
    (case l21 => k_is)
    (case c21 => k_is)
    (case k21 => k_is)
    (case a22 => k_is)
    (case l22 => k_is)
    (case c22 => k_is)
    (case k22 => k_is)
    (case a23 => k_is)
    (case l23 => k_is)
    (case c23 => k_is)
    (case k23 => k_is)
    (case a24 => k_is)
    (case l24 => k_is)
    (case c24 => k_is)
    (case k24 => k_is)
    (case a25 => k_is)
    (case l25 => k_is)
    (case c25 => k_is)
    (case k25 => k_is)
    (case a26 => k_is)
    (case l26 => k_is)
    (case c26 => k_is)
    (case k26 => k_is)
    (case a27 => k_is)
    (case l27 => k_is)
    (case c27 => k_is)
    (case k27 => k_is)
    (case a28 => k_is)
    (case l28 => k_is)
    (case c28 => k_is)
    (case k28 => k_is)
    (case a29 => k_is)
    (case l29 => k_is)
    (case c29 => k_is)
    (case k29 => k_is)
    (case a30 => k_is)
    (case l30 => k_is)
    (case c30 => k_is)
    (case k30 => k_is)
    (case a31 => k_is)
    (case l31 => k_is)
    (case c31 => k_is)
    (case k31 => k_is)
    (case a32 => k_is)
    (case l32 => k_is)
    (case c32 => k_is)
    (case k32 => k_is)
    (case a33 => k_is)
    (case l33 => k_is)
    (case c33 => k_is)
    (case k33 => k_is)
    (case m0 => k_is)
    (case z0 => k_is)
    (case z1 => k_is)
    (case z2 => k_is)
    (case z3 => k_is)
    (case z4 => k_is)
    (case z5 => k_is)
    (case z6 => k_is)
    (case z7 => k_is)
    (case z8 => k_is)
    (case z9 => k_is)
    (case z10 => k_is)
    (case z11 => k_is)
    (case z12 => k_is)
    (case z13 => k_is)
    (case z14 => k_is)
    (case z15 => k_is)
    (case z16 => k_is)
    (case z17 => k_is)
    (case xgBadPlan => k_is)
    (case xxBadPlan => kernel_rfl)
    (case xkBadPlan => k_is)
    (case xbBadPlan => k_is)
    (case xtBadPlan => k_is)
    (case xgBadPace => k_is)
    (case xxBadPace => kernel_rfl)
    (case xkBadPace => k_is)
    (case xbBadPace => k_is)
    (case xtBadPace => k_is)
    (case xgNoCell => k_is)
    (case xxNoCell => kernel_rfl)
    (case xkNoCell => k_is)
    (case xbNoCell => k_is)
    (case xtNoCell => k_is)
    (case xgBadTick => k_is)
    (case xxBadTick => kernel_rfl)
    (case xkBadTick => k_is)
    (case xbBadTick => k_is)
    (case xtBadTick => k_is)
    (case xgNoSign => k_is)
    (case xxNoSign => kernel_rfl)
    (case xkNoSign => k_is)
    (case xbNoSign => k_is)
    (case xtNoSign => k_is)
    (case xgNoInk => k_is)
    (case xxNoInk => kernel_rfl)
    (case xkNoInk => k_is)
    (case xbNoInk => k_is)
    (case xtNoInk => k_is)
    (case xgUnlike => k_is)
    (case xxUnlike => kernel_rfl)
    (case xkUnlike => k_is)
    (case xbUnlike => k_is)
    (case xtUnlike => k_is)
    (case xgInkError => k_is)
    (case xxInkError => kernel_rfl)
    (case xkInkError => k_is)
    (case xbInkError => k_is)
    (case xtInkError => k_is)
    (case xcBadPlan => kernel_rfl)
    (case xcBadPace => kernel_rfl)
    (case xcNoCell => kernel_rfl)
    (case xcBadTick => kernel_rfl)
    (case xcNoSign => kernel_rfl)
    (case xcNoInk => kernel_rfl)
    (case xcUnlike => kernel_rfl)
    (case hqx => kernel_rfl)
    (case hcH => kernel_rfl)
    (case hnT => kernel_rfl)
