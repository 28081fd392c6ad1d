import PyProof.Rows.All
import Wide.All
import OpenK.AllK
import Wide.FinOn
import HandS.ForMost
import HandS.Exc
import HandS.ExcOwn
import HandS.TryMany
import HandS.IsInst
import HandS.WordsExc
import HandS.ExcInit
import HandS.TupAny
import HandS.TupMul
import HandS.StrMore
import HandS.Wide
import HandS.Codes
import HandS.Lambda
import HandS.ExcField
import HandS.Dict
import KE.KExcIs
import KE.KExcInit
import KE.KExcLine
import KE.RegKIsAll
import PySem.Challenge.RW_whomaysign_k70_errors
set_option Elab.async false
set_option linter.all false
set_option maxRecDepth 100000
set_option maxHeartbeats 0
/-! DE1: data, what bears it, a state and its steps, what is wanted behind a run. -/
namespace DE
open PySem PySem.Spec PyProof.Rows L2

inductive D where
  | non | bl (b : Bool) | int (i : Int) | str (x : Str) | ty (n : String)
  | tup (xs : List D) | lst (xs : List D) | dic0
  | scr (ns : List Int) | cls (C : Addr) | obj (C : Addr) (fs : List (Str × D)) | hdl (a : Addr) | exo (C : Addr) (f : Str) (d : D)

/-- a tuple that stands: tracked, or one of the module's -/
def TupAt (K : PySem.W.Frag) (F : Hp) (a : Addr) (xs : List V) : Prop := F a = some (.tup xs) ∨
  ∃ (o : Obj) (its : Array Value) (n : Nat), K.lookup a = some o ∧ o.cls = .type "tuple" ∧ o.data = .seq its n ∧ its.size ≤ sizeLine ∧ Vals xs its.toList
theorem TupAt.sq {K : PySem.W.Frag} {F H : Hp} {a : Addr} {xs : List V} (h : TupAt K F a xs) (sub : Same F H) : SqT K H a xs := by
  rcases h with h | h
  · exact .inl (.inl (sub _ _ h))
  · exact .inr h
theorem TupAt.up {K : PySem.W.Frag} {F F' : Hp} {a : Addr} {xs : List V} (sub : Same F F') (h : TupAt K F a xs) : TupAt K F' a xs := by
  rcases h with h | h
  · exact .inl (sub _ _ h)
  · exact .inr h
mutual
inductive Rep (K : PySem.W.Frag) (F : Hp) : V → D → Prop
  | non : Rep K F .non .non
  | bl (b : Bool) : Rep K F (.bl b) (.bl b)
  | int (i : Int) : Rep K F (.int i) (.int i)
  | str (x : Str) : Rep K F (.str x) (.str x)
  | ty (n : String) : Rep K F (.ty n) (.ty n)
  | tup {a : Addr} {xs : List V} {ds : List D} : TupAt K F a xs → RepL K F xs ds → Rep K F (.ref a) (.tup ds)
  | lst {a : Addr} {xs : List V} {ds : List D} : F a = some (.lst xs) → RepL K F xs ds → Rep K F (.ref a) (.lst ds)
  | scr {a : Addr} {ns : List Int} : SqL K F a (ns.map V.int) → Rep K F (.ref a) (.scr ns)
  | dic0 {a : Addr} : F a = some (.dK []) → Rep K F (.ref a) .dic0
  | obj {a C dx : Addr} {vs : List (Str × V)} {fs : List (Str × D)} : F a = some (.ins C dx vs) → RepF K F vs fs → Rep K F (.ref a) (.obj C fs)
  | hdl (a : Addr) : Rep K F (.ref a) (.hdl a)
  | cls (C : Addr) : Rep K F (.ref C) (.cls C)
  | exo {a C dd : Addr} {f : Str} {v : V} {d : D} : F a = some (L2.exo a C (some dd)) → F dd = some (L2.exd dd [(f, v)]) → Rep K F v d → Rep K F (.ref a) (.exo C f d)
inductive RepL (K : PySem.W.Frag) (F : Hp) : List V → List D → Prop
  | nil : RepL K F [] []
  | cons {v : V} {vs : List V} {d : D} {ds : List D} : Rep K F v d → RepL K F vs ds → RepL K F (v :: vs) (d :: ds)
inductive RepF (K : PySem.W.Frag) (F : Hp) : List (Str × V) → List (Str × D) → Prop
  | nil : RepF K F [] []
  | cons {n : Str} {v : V} {vs : List (Str × V)} {d : D} {ds : List (Str × D)} : Rep K F v d → RepF K F vs ds → RepF K F ((n, v) :: vs) ((n, d) :: ds)
end

theorem Rd.up {F F' : Hp} {a : Addr} {u : HO} (h : Same F F') (r : Rd F a u) : Rd F' a u := by
  rcases r with r | ⟨o, r⟩
  · exact .inl (h _ _ r)
  · exact .inr ⟨o, h _ _ r⟩
theorem SqT.up {K : PySem.W.Frag} {F F' : Hp} {a : Addr} {xs : List V} (h : Same F F') (r : SqT K F a xs) : SqT K F' a xs := by
  rcases r with r | r
  · exact .inl (Rd.up h r)
  · exact .inr r
theorem SqL.up {K : PySem.W.Frag} {F F' : Hp} {a : Addr} {xs : List V} (h : Same F F') (r : SqL K F a xs) : SqL K F' a xs := by
  rcases r with r | r
  · exact .inl (Rd.up h r)
  · exact .inr r
mutual
theorem Rep.up {K : PySem.W.Frag} {F F' : Hp} (h : Same F F') : ∀ {v : V} {d : D}, Rep K F v d → Rep K F' v d
  | _, _, .non => .non
  | _, _, .bl b => .bl b
  | _, _, .int i => .int i
  | _, _, .str x => .str x
  | _, _, .ty n => .ty n
  | _, _, .tup s l => .tup (TupAt.up h s) (RepL.up h l)
  | _, _, .lst s l => .lst (h _ _ s) (RepL.up h l)
  | _, _, .scr s => .scr (SqL.up h s)
  | _, _, .dic0 e => .dic0 (h _ _ e)
  | _, _, .obj e l => .obj (h _ _ e) (RepF.up h l)
  | _, _, .hdl a => .hdl a
  | _, _, .cls a => .cls a
  | _, _, .exo e1 e2 r => .exo (h _ _ e1) (h _ _ e2) (Rep.up h r)
theorem RepL.up {K : PySem.W.Frag} {F F' : Hp} (h : Same F F') : ∀ {v : List V} {d : List D}, RepL K F v d → RepL K F' v d
  | _, _, .nil => .nil
  | _, _, .cons r l => .cons (Rep.up h r) (RepL.up h l)
theorem RepF.up {K : PySem.W.Frag} {F F' : Hp} (h : Same F F') : ∀ {v : List (Str × V)} {d : List (Str × D)}, RepF K F v d → RepF K F' v d
  | _, _, .nil => .nil
  | _, _, .cons r l => .cons (Rep.up h r) (RepF.up h l)
end
section
variable {K : PySem.W.Frag} {F : Hp}
theorem RepL.length : ∀ {vs : List V} {ds : List D}, RepL K F vs ds → vs.length = ds.length
  | _, _, .nil => rfl
  | _, _, .cons _ l => by rw [List.length_cons, List.length_cons, RepL.length l]
theorem RepL.get : ∀ {vs : List V} {ds : List D}, RepL K F vs ds → ∀ {i : Nat} {v : V}, vs[i]? = some v → ∃ d, ds[i]? = some d ∧ Rep K F v d
  | _, _, .nil, _, _, h => by simp at h
  | _, _, .cons r l, 0, v, h => ⟨_, rfl, by simp at h; subst h; exact r⟩
  | _, _, .cons r l, i + 1, v, h => by
    obtain ⟨d, e, q⟩ := RepL.get l (i := i) (v := v) (by simpa using h)
    exact ⟨d, by simpa using e, q⟩
theorem RepL.getD : ∀ {vs : List V} {ds : List D}, RepL K F vs ds → ∀ {i : Nat} {d : D}, ds[i]? = some d → ∃ v, vs[i]? = some v ∧ Rep K F v d
  | _, _, .nil, _, _, h => by simp at h
  | _, _, .cons r l, 0, v, h => ⟨_, rfl, by simp at h; subst h; exact r⟩
  | _, _, .cons r l, i + 1, v, h => by
    obtain ⟨d, e, q⟩ := RepL.getD l (i := i) (d := v) (by simpa using h)
    exact ⟨d, by simpa using e, q⟩
theorem RepL.append : ∀ {vs ws : List V} {ds es : List D}, RepL K F vs ds → RepL K F ws es → RepL K F (vs ++ ws) (ds ++ es)
  | _, _, _, _, .nil, h => h
  | _, _, _, _, .cons r l, h => .cons r (RepL.append l h)
theorem RepL.drop : ∀ {vs : List V} {ds : List D} (n : Nat), RepL K F vs ds → RepL K F (vs.drop n) (ds.drop n)
  | _, _, 0, h => h
  | _, _, _ + 1, .nil => .nil
  | _, _, n + 1, .cons _ l => RepL.drop n l
theorem RepL.take : ∀ {vs : List V} {ds : List D} (n : Nat), RepL K F vs ds → RepL K F (vs.take n) (ds.take n)
  | _, _, 0, _ => .nil
  | _, _, _ + 1, .nil => .nil
  | _, _, n + 1, .cons r l => .cons r (RepL.take n l)
theorem RepL.reverse {vs : List V} {ds : List D} (h : RepL K F vs ds) : RepL K F vs.reverse ds.reverse := by
  induction vs generalizing ds with
  | nil => cases h; exact .nil
  | cons v vs ih =>
    cases h with
    | cons r l =>
      rw [List.reverse_cons, List.reverse_cons]
      exact (ih l).append (.cons r .nil)
end

/-! ### what else than data a def may change -/
structure Res where
  M : Type
  own : M → Hp → Addr → Prop
  inv : M → Hp → Hp → Prop
  step : ∀ {m : M} {F H F' H' : Hp}, inv m F H → Same F F' → (∀ a, own m H a → F' a = none) → (∀ a, own m H a → H' a = H a) → inv m F' H' ∧ ∀ a, own m H' a → own m H a
/-- nothing -/
def unitR : Res := ⟨Unit, fun _ _ _ => False, fun _ _ _ => True, fun _ _ _ _ => ⟨True.intro, fun _ h => h⟩⟩

structure Wf (R : Res) (m : R.M) (F H : Hp) : Prop where
  sub : Same F H
  clean : ∀ a ps, F a ≠ some (.tbl ps)
  inv : R.inv m F H
  off : ∀ a, R.own m H a → F a = none
  trk : ∀ a, R.own m H a → ∃ o, H a = some o ∧ ∀ ps, o ≠ .tbl ps
structure Stp (R : Res) (m : R.M) (F H : Hp) (m' : R.M) (F' H' : Hp) : Prop where
  up : Same F F'
  fresh : ∀ a, F a = none → F' a ≠ none → H a = none
  keep : ∀ a o, H a = some o → ¬ R.own m H a → (∀ ps, o ≠ .tbl ps) → H' a = some o
  there : ∀ a, H a ≠ none → H' a ≠ none
  ofresh : ∀ a, R.own m' H' a → R.own m H a ∨ H a = none
  wf : Wf R m' F' H'
section
variable {R : Res} {m m1 m2 : R.M} {F F1 F2 H H1 H2 : Hp}
theorem Stp.refl (w : Wf R m F H) : Stp R m F H m F H := ⟨Same.refl _, fun a e n => absurd e n, fun _ _ e _ _ => e, fun _ e => e, fun _ e => .inl e, w⟩
theorem Stp.trans (a : Stp R m F H m1 F1 H1) (b : Stp R m1 F1 H1 m2 F2 H2) : Stp R m F H m2 F2 H2 where
  up := a.up.trans b.up
  fresh := fun x e n => by
    cases q : F1 x with
    | none =>
      have h1 := b.fresh x q n
      cases r : H x with
      | none => rfl
      | some o => exact absurd h1 (a.there x (by rw [r]; simp))
    | some o => exact a.fresh x e (by rw [q]; simp)
  keep := fun x o e n nt => by
    have e1 := a.keep x o e n nt
    refine b.keep x o e1 (fun z => ?_) nt
    rcases a.ofresh x z with z | z
    · exact n z
    · rw [e] at z; cases z
  there := fun x h => b.there x (a.there x h)
  ofresh := fun x h => by
    rcases b.ofresh x h with z | z
    · exact a.ofresh x z
    · cases r : H x with
      | none => exact .inr rfl
      | some o => exact absurd z (a.there x (by rw [r]; simp))
  wf := b.wf
/-- a state whose own things are as they were -/
theorem Wf.moved {F' H' : Hp} (w : Wf R m F H) (up : Same F F') (sub : Same F' H') (clean : ∀ a ps, F' a ≠ some (.tbl ps)) (off : ∀ a, R.own m H a → F' a = none) (same : ∀ a, R.own m H a → H' a = H a) : Wf R m F' H' ∧ ∀ a, R.own m H' a → R.own m H a := by
  obtain ⟨i, o⟩ := R.step w.inv up off same
  exact ⟨⟨sub, clean, i, fun a h => off a (o a h), fun a h => by rw [same a (o a h)]; exact w.trk a (o a h)⟩, o⟩
/-- something new is laid -/
theorem Stp.new {p : Addr} {o : HO} (w : Wf R m F H) (hp : H p = none) (nt : ∀ ps, o ≠ .tbl ps) : Stp R m F H m (upd F p o) (upd H p o) := by
  have fp : F p = none := by
    cases q : F p with
    | none => rfl
    | some o => rw [w.sub _ _ q] at hp; cases hp
  have ne : ∀ a, H a ≠ none → a ≠ p := fun a h e => h (by rw [e]; exact hp)
  have up : Same F (upd F p o) := fun a u e => by rw [upd_ne (ne_of_none e fp)]; exact e
  have neo : ∀ a, R.own m H a → a ≠ p := fun a h => ne a (by obtain ⟨o, e, _⟩ := w.trk a h; rw [e]; simp)
  obtain ⟨wf, ow⟩ := w.moved (F' := upd F p o) (H' := upd H p o) up (fun a u e => by
    by_cases z : a = p
    · subst z
      rw [upd_same] at e ⊢
      exact e
    · rw [upd_ne z] at e ⊢
      exact w.sub _ _ e) (fun a ps e => by
    by_cases z : a = p
    · subst z
      rw [upd_same] at e
      exact nt ps (Option.some.inj e)
    · rw [upd_ne z] at e
      exact w.clean _ _ e) (fun a h => by rw [upd_ne (neo a h)]; exact w.off a h) fun a h => by rw [upd_ne (neo a h)]
  refine ⟨up, fun a e n => ?_, fun a u e _ _ => by rw [upd_ne (ne_of_none e hp)]; exact e, fun a h => by rw [upd_ne (ne a h)]; exact h, fun a h => .inl (ow a h), wf⟩
  by_cases z : a = p
  · rw [z]; exact hp
  · rw [upd_ne z] at n; exact absurd e n
/-- a step of a def that changes nothing but data, seen with more around -/
theorem Stp.lift {F' H' : Hp} {m' : unitR.M} {n : unitR.M} (w : Wf R m F H) (s : Stp unitR n F H m' F' H') : Stp R m F H m F' H' := by
  have off : ∀ a, R.own m H a → F' a = none := fun a h => by
    cases q : F' a with
    | none => rfl
    | some o =>
      obtain ⟨u, e, _⟩ := w.trk a h
      have z := s.fresh a (w.off a h) (by rw [q]; simp)
      rw [e] at z; cases z
  have kp : ∀ a, R.own m H a → H' a = H a := fun a h => by
    obtain ⟨u, e, nt⟩ := w.trk a h
    rw [e]; exact s.keep a u e (fun z => z) nt
  obtain ⟨wf, ow⟩ := w.moved s.up s.wf.sub s.wf.clean off kp
  exact ⟨s.up, s.fresh, fun a o e _ nt => s.keep a o e (fun z => z) nt, s.there, fun a h => .inl (ow a h), wf⟩
theorem Wf.unit (w : Wf R m F H) : Wf unitR () F H := ⟨w.sub, w.clean, True.intro, fun _ h => h.elim, fun _ h => h.elim⟩
end

/-! ### runs -/
inductive Out (M α : Type) where
  | ok (a : α) (m : M) | exc (C : Addr) (f : Str) (d : D) (m : M) | bad
def Mo (M α : Type) := M → Out M α
namespace Mo
variable {M α β : Type}
def ret (a : α) : Mo M α := fun m => .ok a m
def bnd (x : Mo M α) (k : α → Mo M β) : Mo M β := fun m => match x m with
  | .ok a m' => k a m'
  | .exc C f d m' => .exc C f d m'
  | .bad => .bad
def bad : Mo M α := fun _ => .bad
def opt : Option α → Mo M α
  | some a => ret a
  | none => bad
theorem bnd_ret (a : α) (k : α → Mo M β) : bnd (ret a) k = k a := rfl
end Mo
abbrev DEnv := List (Option D)
def EnvR (K : PySem.W.Frag) (F : Hp) (σ : L2.St) (ρ : DEnv) : Prop := ρ.length = σ.length ∧ ∀ (i : Nat) (d : D), ρ[i]? = some (some d) → ∃ v, σ[i]? = some (some v) ∧ Rep K F v d
theorem EnvR.up {K : PySem.W.Frag} {F F' : Hp} {σ : L2.St} {ρ : DEnv} (h : Same F F') (e : EnvR K F σ ρ) : EnvR K F' σ ρ := ⟨e.1, fun i d hi => by
  obtain ⟨v, h1, h2⟩ := e.2 i d hi
  exact ⟨v, h1, h2.up h⟩⟩
theorem EnvR.set {K : PySem.W.Frag} {F : Hp} {σ : L2.St} {ρ : DEnv} (e : EnvR K F σ ρ) (i : Nat) {v : V} {d : D} (r : Rep K F v d) : EnvR K F (σ.set i (some v)) (ρ.set i (some d)) := by
  refine ⟨by rw [List.length_set, List.length_set, e.1], fun j d' hj => ?_⟩
  by_cases z : i = j
  · subst z
    by_cases hl : i < ρ.length
    · rw [List.getElem?_set_self hl] at hj
      cases hj
      exact ⟨v, List.getElem?_set_self (by rw [← e.1]; exact hl), r⟩
    · rw [List.getElem?_eq_none (by rw [List.length_set]; exact Nat.le_of_not_lt hl)] at hj; cases hj
  · rw [List.getElem?_set_ne z] at hj ⊢
    exact e.2 j d' hj
theorem EnvR.set_none {K : PySem.W.Frag} {F : Hp} {σ : L2.St} {ρ : DEnv} (e : EnvR K F σ ρ) (i : Nat) : EnvR K F (σ.set i none) (ρ.set i none) := by
  refine ⟨by rw [List.length_set, List.length_set, e.1], fun j d' hj => ?_⟩
  by_cases z : i = j
  · subst z
    by_cases hl : i < ρ.length
    · rw [List.getElem?_set_self hl] at hj
      cases hj
    · rw [List.getElem?_eq_none (by rw [List.length_set]; exact Nat.le_of_not_lt hl)] at hj; cases hj
  · rw [List.getElem?_set_ne z] at hj ⊢
    exact e.2 j d' hj
/-- the same slots forgotten -/
def wipeD (ρ : DEnv) : List Nat → DEnv
  | [] => ρ
  | v :: vs => (wipeD ρ vs).set v none
theorem EnvR.wipe {K : PySem.W.Frag} {F : Hp} {σ : L2.St} {ρ : DEnv} (e : EnvR K F σ ρ) : ∀ vs : List Nat, EnvR K F (L2.wipe σ vs) (wipeD ρ vs)
  | [] => e
  | v :: vs => (EnvR.wipe e vs).set_none v

section
variable {α β : Type}
/-- what is wanted behind a run, from m F H on -/
def Post (R : Res) (K : PySem.W.Frag) (W : WX) (σ : L2.St) (m : R.M) (F H : Hp) (o : Out R.M α) (Q : α → R.M → Hp → Hp → Prop) : Prop := match o with
  | .ok a m' => ∀ F' H', Stp R m F H m' F' H' → Q a m' F' H'
  | .exc C f d m' => ∀ v dd F' H', Stp R m F H m' F' H' → Rep K F' v d → F' dd = some (.xd [(f, v)]) → W (.ref C) (some dd) σ H'
  | .bad => False
variable {R : Res} {K : PySem.W.Frag} {W : WX} {σ : L2.St} {m m1 : R.M} {F F1 H H1 : Hp} {Q Q' : α → R.M → Hp → Hp → Prop}
theorem Post.mono {o : Out R.M α} (p : Post R K W σ m F H o Q) (h : ∀ a m' F' H', Stp R m F H m' F' H' → Q a m' F' H' → Q' a m' F' H') : Post R K W σ m F H o Q' := by
  cases o with
  | ok a m' => exact fun F' H' s => h _ _ _ _ s (p F' H' s)
  | exc C f d m' => exact p
  | bad => exact p
theorem Post.from {o : Out R.M α} (s : Stp R m F H m1 F1 H1) (p : Post R K W σ m F H o Q) : Post R K W σ m1 F1 H1 o Q := by
  cases o with
  | ok a m' => exact fun F' H' s' => p F' H' (s.trans s')
  | exc C f d m' => exact fun v dd F' H' s' r e => p v dd F' H' (s.trans s') r e
  | bad => exact p
theorem Post.split {x : Mo R.M α} {k : α → Mo R.M β} {Qb : β → R.M → Hp → Hp → Prop} (p : Post R K W σ m F H (Mo.bnd x k m) Qb) :
    Post R K W σ m F H (x m) fun a m1 F1 H1 => Post R K W σ m1 F1 H1 (k a m1) Qb := by
  unfold Mo.bnd at p
  cases e : x m with
  | ok a m' => rw [e] at p; exact fun F' H' s => p.from s
  | exc C f d m' => rw [e] at p; exact p
  | bad => rw [e] at p; exact p
theorem Post.ret {a : α} (w : Wf R m F H) (p : Post R K W σ m F H (Mo.ret a m) Q) : Q a m F H := p F H (Stp.refl w)
end
end DE

/-! DE2: expressions by what they compute. -/
namespace DE
open PySem PySem.Spec PyProof.Rows L2

/-! ### readings -/
abbrev noW : WX := fun _ _ _ _ => False
def tD (R : Res) (K : PySem.W.Frag) (W : WX) (f : DEnv → Mo R.M D) : TE := fun σ H Q => ∃ m F ρ, Wf R m F H ∧ EnvR K F σ ρ ∧ Post R K W σ m F H (f ρ m) fun d _ F' H' => ∀ v, Rep K F' v d → Q v H'
def tB (R : Res) (K : PySem.W.Frag) (W : WX) (f : DEnv → Mo R.M Bool) : TT := fun σ H Q => ∃ m F ρ, Wf R m F H ∧ EnvR K F σ ρ ∧ Post R K W σ m F H (f ρ m) fun b _ F' H' => Q b H'
def tL (R : Res) (K : PySem.W.Frag) (W : WX) (f : DEnv → Mo R.M (List D)) : TA := fun σ H Q => ∃ m F ρ, Wf R m F H ∧ EnvR K F σ ρ ∧ Post R K W σ m F H (f ρ m) fun ds _ F' H' => ∀ vs, RepL K F' vs ds → Q vs H'
section
variable (R : Res) (X : Cx) (W : WX)
abbrev JE (e : Expr) (f : DEnv → Mo R.M D) : Prop := PE X e (tD R X.K W f)
abbrev JB (e : Expr) (f : DEnv → Mo R.M Bool) : Prop := PT X e (tB R X.K W f)
abbrev JW (e : Expr) (f : DEnv → Mo R.M Bool) : Prop := PW X e (tB R X.K W f)
abbrev JL (es : List Expr) (f : DEnv → Mo R.M (List D)) : Prop := PA X es (tL R X.K W f)
end
theorem wkE {X : Cx} {e : Expr} {t t' : TE} (h : PE X e t) (k : ∀ σ H Q, t' σ H Q → t σ H Q) : PE X e t' := ⟨fun pins s σ H Q I q => h.run pins s σ H Q I (k _ _ _ q)⟩
theorem wkT {X : Cx} {e : Expr} {t t' : TT} (h : PT X e t) (k : ∀ σ H Q, t' σ H Q → t σ H Q) : PT X e t' := ⟨fun pins s σ H Q I q => h.run pins s σ H Q I (k _ _ _ q)⟩
theorem wkW {X : Cx} {e : Expr} {t t' : TT} (h : PW X e t) (k : ∀ σ H Q, t' σ H Q → t σ H Q) : PW X e t' := ⟨fun wh pins s σ H Q I q => h.run wh pins s σ H Q I (k _ _ _ q)⟩
theorem wkA {X : Cx} {e : List Expr} {t t' : TA} (h : PA X e t) (k : ∀ σ H Q, t' σ H Q → t σ H Q) : PA X e t' := ⟨fun pos pins s σ H Q I q => h.run pos pins s σ H Q I (k _ _ _ q)⟩
theorem wkS {X : Cx} {e : Stmt} {t t' : TS} (h : PS X e t) (k : ∀ D σ H, t' D σ H → t D σ H) : PS X e t' := ⟨fun pins s σ H D I q => h.run pins s σ H D I (k _ _ _ q)⟩
theorem wkSs {X : Cx} {e : List Stmt} {t t' : TS} (h : PSs X e t) (k : ∀ D σ H, t' D σ H → t D σ H) : PSs X e t' := ⟨fun pins s σ H D I q => h.run pins s σ H D I (k _ _ _ q)⟩

/-! ### what is computed -/
section
variable {M : Type}
def dVar (i : Nat) : DEnv → Mo M D := fun ρ => Mo.opt (ρ.getD i none)
def dC (d : D) : DEnv → Mo M D := fun _ => Mo.ret d
def dBin (g : D → D → Option D) (a b : DEnv → Mo M D) : DEnv → Mo M D := fun ρ => Mo.bnd (a ρ) fun x => Mo.bnd (b ρ) fun y => Mo.opt (g x y)
def dUn (g : D → Option D) (a : DEnv → Mo M D) : DEnv → Mo M D := fun ρ => Mo.bnd (a ρ) fun x => Mo.opt (g x)
def dNil : DEnv → Mo M (List D) := fun _ => Mo.ret []
def dCons (a : DEnv → Mo M D) (l : DEnv → Mo M (List D)) : DEnv → Mo M (List D) := fun ρ => Mo.bnd (a ρ) fun x => Mo.bnd (l ρ) fun xs => Mo.ret (x :: xs)
def dTup (l : DEnv → Mo M (List D)) : DEnv → Mo M D := fun ρ => Mo.bnd (l ρ) fun xs => Mo.opt (if xs.length ≤ sizeLine then some (.tup xs) else none)
def dLst (l : DEnv → Mo M (List D)) : DEnv → Mo M D := fun ρ => Mo.bnd (l ρ) fun xs => Mo.opt (if xs.length ≤ sizeLine then some (.lst xs) else none)
def asB : D → Option Bool
  | .bl b => some b
  | _ => none
/-- an answer that is a bool, as a test -/
def bOf (a : DEnv → Mo M D) : DEnv → Mo M Bool := fun ρ => Mo.bnd (a ρ) fun x => Mo.opt (asB x)
def truth : D → Option Bool
  | .non => some false
  | .bl b => some b
  | .int i => some (i != 0)
  | .str y => if y.length ≤ sizeLine then some ((y.length : Int) != 0) else none
  | .tup xs => some (!xs.isEmpty)
  | .lst xs => some (!xs.isEmpty)
  | .dic0 => some false
  | _ => none
def bTru (a : DEnv → Mo M D) : DEnv → Mo M Bool := fun ρ => Mo.bnd (a ρ) fun x => Mo.opt (truth x)
def bNot (a : DEnv → Mo M Bool) : DEnv → Mo M Bool := fun ρ => Mo.bnd (a ρ) fun x => Mo.ret (!x)
def bAnd (a b : DEnv → Mo M Bool) : DEnv → Mo M Bool := fun ρ => Mo.bnd (a ρ) fun x => if x = true then b ρ else Mo.ret false
def bOr (a b : DEnv → Mo M Bool) : DEnv → Mo M Bool := fun ρ => Mo.bnd (a ρ) fun x => if x = true then Mo.ret true else b ρ
/-- and, or, not as values: all but the last are bools -/
def dAnd (a b : DEnv → Mo M D) : DEnv → Mo M D := fun ρ => Mo.bnd (a ρ) fun x => Mo.bnd (Mo.opt (asB x)) fun c => if c = true then b ρ else Mo.ret (.bl false)
def dOr (a b : DEnv → Mo M D) : DEnv → Mo M D := fun ρ => Mo.bnd (a ρ) fun x => Mo.bnd (Mo.opt (asB x)) fun c => if c = true then Mo.ret (.bl true) else b ρ
def dNot (a : DEnv → Mo M D) : DEnv → Mo M D := fun ρ => Mo.bnd (a ρ) fun x => Mo.bnd (Mo.opt (asB x)) fun c => Mo.ret (.bl (!c))
def dIf (c : DEnv → Mo M Bool) (a b : DEnv → Mo M D) : DEnv → Mo M D := fun ρ => Mo.bnd (c ρ) fun x => if x = true then a ρ else b ρ
def dChain (g g' : D → D → Option D) (a b c : DEnv → Mo M D) : DEnv → Mo M D := fun ρ => Mo.bnd (a ρ) fun x => Mo.bnd (b ρ) fun y => Mo.bnd (Mo.opt (g x y)) fun z =>
  Mo.bnd (Mo.opt (asB z)) fun k => if k = true then Mo.bnd (c ρ) fun w => Mo.opt (g' y w) else Mo.ret (.bl false)
end

section
variable {R : Res} {X : Cx} {W : WX}
theorem Post.opt {α : Type} {o : Option α} {K : PySem.W.Frag} {σ : L2.St} {m : R.M} {F H : Hp} {Q : α → R.M → Hp → Hp → Prop} (w : Wf R m F H) (p : Post R K W σ m F H (Mo.opt o m) Q) : ∃ a, o = some a ∧ Q a m F H := by
  cases o with
  | none => exact p.elim
  | some a => exact ⟨a, rfl, p F H (Stp.refl w)⟩

/-! ### names, constants, displays -/
theorem je_var {i : Nat} {x : Str} {pos : Pos} (hN : X.N[i]? = some x := by rfl) (hv : Vis X.env.scope x := by first | exact Or.inl rfl | exact Or.inr (Or.inl rfl) | exact Or.inr (Or.inr rfl))
    (hd : (x == ("__debug__" : Str)) = false := by decide) (hcd : (x == ("__classdict__" : Str)) = false := by decide) : JE R X W (.Name x pos) (dVar i) := by
  refine wkE (pe_var (pos := pos) hN hv hd hcd) fun σ H Q h => ?_
  obtain ⟨m, F, ρ, w, e, p⟩ := h
  obtain ⟨d, q1, q2⟩ := p.opt w
  have hi : ρ[i]? = some (some d) := by
    rw [List.getD_eq_getElem?_getD] at q1
    cases z : ρ[i]? with
    | none => rw [z] at q1; cases q1
    | some u => rw [z] at q1; exact congrArg some q1
  obtain ⟨v, h1, h2⟩ := e.2 i d hi
  exact ⟨v, h1, q2 v h2⟩
theorem je_const {e : Expr} {v : V} {d : D} (h : PE X e (tC v)) (r : ∀ F, Rep X.K F v d) : JE R X W e (dC d) := by
  refine wkE h fun σ H Q h => ?_
  obtain ⟨m, F, ρ, w, er, p⟩ := h
  exact p.ret w v (r F)
theorem je_int {i j pos} : JE R X W (.Constant (.int i) j pos) (dC (.int i)) := je_const pe_int fun _ => .int i
theorem je_bl {b j pos} : JE R X W (.Constant (.bool b) j pos) (dC (.bl b)) := je_const pe_bl fun _ => .bl b
theorem je_non {j pos} : JE R X W (.Constant .none j pos) (dC .non) := je_const pe_non fun _ => .non
theorem je_str {x j pos} : JE R X W (.Constant (.str x) j pos) (dC (.str x)) := je_const pe_str fun _ => .str x
/-- a constant of the module -/
theorem je_glob {x : Str} {v : V} {u : Value} {d : D} {pos : Pos} (hm : X.mg x = some u) (r : RelV v u) (rd : ∀ F, Rep X.K F v d) (hg : Gl X x := by rfl) (hd : (x == ("__debug__" : Str)) = false := by decide) : JE R X W (.Name x pos) (dC d) :=
  je_const (pe_glob hg hm r hd) rd
theorem jl_nil : JL R X W [] dNil := by
  refine wkA pa_nil fun σ H Q h => ?_
  obtain ⟨m, F, ρ, w, er, p⟩ := h
  exact p.ret w [] .nil
theorem jl_cons {e : Expr} {es : List Expr} {a : DEnv → Mo R.M D} {l : DEnv → Mo R.M (List D)} (ha : JE R X W e a) (hl : JL R X W es l) (hs : starEach (e :: es) X.env = (false, eval e X.env) :: starEach es X.env := by rfl) :
    JL R X W (e :: es) (dCons a l) := by
  refine wkA (pa_cons ha hl hs) fun σ H Q h => ?_
  obtain ⟨m, F, ρ, w, er, p⟩ := h
  refine ⟨m, F, ρ, w, er, p.split.mono fun x m1 F1 H1 s1 p1 v rv => ⟨m1, F1, ρ, s1.wf, er.up s1.up, p1.split.mono fun xs m2 F2 H2 s2 p2 vs rvs => ?_⟩⟩
  exact p2.ret s2.wf (v :: vs) (.cons (rv.up s2.up) rvs)
theorem je_tup {es : List Expr} {l : DEnv → Mo R.M (List D)} {x1 pos} (hl : JL R X W es l) : JE R X W (.Tuple es x1 pos) (dTup l) := by
  refine wkE (pe_tup hl) fun σ H Q h => ?_
  obtain ⟨m, F, ρ, w, er, p⟩ := h
  refine ⟨m, F, ρ, w, er, p.split.mono fun xs m1 F1 H1 s1 p1 vs rvs => ?_⟩
  by_cases hz : xs.length ≤ sizeLine
  · refine ⟨by rw [rvs.length]; exact hz, fun a ha => ?_⟩
    have st := Stp.new s1.wf ha (o := .tup vs) (fun _ z => nomatch z)
    rw [if_pos hz] at p1
    exact p1 _ _ st _ (.tup (.inl upd_same) (rvs.up st.up))
  · rw [if_neg hz] at p1
    exact p1.elim

theorem je_lst {es : List Expr} {l : DEnv → Mo R.M (List D)} {pos} (hl : JL R X W es l) : JE R X W (.List es pos) (dLst l) := by
  refine wkE (pe_lst hl) fun σ H Q h => ?_
  obtain ⟨m, F, ρ, w, er, p⟩ := h
  refine ⟨m, F, ρ, w, er, p.split.mono fun xs m1 F1 H1 s1 p1 vs rvs => ?_⟩
  by_cases hz : xs.length ≤ sizeLine
  · refine ⟨by rw [rvs.length]; exact hz, fun a ha => ?_⟩
    have st := Stp.new s1.wf ha (o := .lst vs) (fun _ z => nomatch z)
    rw [if_pos hz] at p1
    exact p1 _ _ st _ (.lst upd_same (rvs.up st.up))
  · rw [if_neg hz] at p1
    exact p1.elim

/-! ### operators -/
/-- an operator by data: its answer, perhaps new -/
def rD (R : Res) (K : PySem.W.Frag) (g : D → D → Option D) : R2 := fun x y H Q => ∃ m F dx dy d, Wf R m F H ∧ Rep K F x dx ∧ Rep K F y dy ∧ g dx dy = some d ∧ ∀ F' H' v, Stp R m F H m F' H' → Rep K F' v d → Q v H'
def OpD (R : Res) (X : Cx) (f : Value → Value → Sem Value) (g : D → D → Option D) : Prop := OpR X f (rD R X.K g)
theorem je_bin {op : Operator} {g : D → D → Option D} {a b : Expr} {fa fb : DEnv → Mo R.M D} {pos : Pos} (ho : OpD R X (binaryOp op) g) (ha : JE R X W a fa) (hb : JE R X W b fb) : JE R X W (.BinOp a op b pos) (dBin g fa fb) := by
  refine wkE (pe_op ho ha hb) fun σ H Q h => ?_
  obtain ⟨m, F, ρ, w, er, p⟩ := h
  refine ⟨m, F, ρ, w, er, p.split.mono fun x m1 F1 H1 s1 p1 v rv => ⟨m1, F1, ρ, s1.wf, er.up s1.up, p1.split.mono fun y m2 F2 H2 s2 p2 u ru => ?_⟩⟩
  cases e : g x y with
  | none => rw [e] at p2; exact p2.elim
  | some d =>
    rw [e] at p2
    exact ⟨m2, F2, x, y, d, s2.wf, rv.up s2.up, ru, e, fun F' H' v' st r => p2 F' H' st v' r⟩
theorem je_cmp {op : CmpOp} {g : D → D → Option D} {a b : Expr} {fa fb : DEnv → Mo R.M D} {pos : Pos} (ho : OpD R X (compareOp op) g) (ha : JE R X W a fa) (hb : JE R X W b fb) (hm : behindInMarks op b = false) : JE R X W (.Compare a [op] [b] pos) (dBin g fa fb) := by
  refine wkE (pe_cmpR ho ha hb hm) fun σ H Q h => ?_
  obtain ⟨m, F, ρ, w, er, p⟩ := h
  refine ⟨m, F, ρ, w, er, p.split.mono fun x m1 F1 H1 s1 p1 v rv => ⟨m1, F1, ρ, s1.wf, er.up s1.up, p1.split.mono fun y m2 F2 H2 s2 p2 u ru => ?_⟩⟩
  cases e : g x y with
  | none => rw [e] at p2; exact p2.elim
  | some d =>
    rw [e] at p2
    exact ⟨m2, F2, x, y, d, s2.wf, rv.up s2.up, ru, e, fun F' H' v' st r => p2 F' H' st v' r⟩
theorem rep_bl {K : PySem.W.Frag} {F : Hp} {v : V} {b : Bool} (r : Rep K F v (.bl b)) : v = .bl b := by cases r; rfl
theorem asB_some {d : D} {b : Bool} (h : asB d = some b) : d = .bl b := by
  cases d <;> first | (cases h; rfl) | cases h
theorem jb_cmp {op : CmpOp} {g : D → D → Option D} {a b : Expr} {fa fb : DEnv → Mo R.M D} {pos : Pos} (ho : OpD R X (compareOp op) g) (ha : JE R X W a fa) (hb : JE R X W b fb) (hm : behindInMarks op b = false) : JB R X W (.Compare a [op] [b] pos) (bOf (dBin g fa fb)) := by
  refine wkT (pt_cmpR ho ha hb hm) fun σ H Q h => ?_
  obtain ⟨m, F, ρ, w, er, p⟩ := h
  refine ⟨m, F, ρ, w, er, p.split.split.mono fun x m1 F1 H1 s1 p1 v rv => ⟨m1, F1, ρ, s1.wf, er.up s1.up, p1.split.mono fun y m2 F2 H2 s2 p2 u ru => ?_⟩⟩
  cases e : g x y with
  | none => rw [e] at p2; exact p2.elim
  | some d =>
    rw [e] at p2
    refine ⟨m2, F2, x, y, d, s2.wf, rv.up s2.up, ru, e, fun F' H' v' st r => ?_⟩
    obtain ⟨k, e2, q⟩ := Post.opt st.wf (p2 F' H' st)
    rw [asB_some e2] at r
    exact ⟨k, rep_bl r, q⟩
theorem je_chain {op op' : CmpOp} {g g' : D → D → Option D} {a b c : Expr} {fa fb fc : DEnv → Mo R.M D} {pos : Pos} (ho : OpD R X (compareOp op) g) (ho' : OpD R X (compareOp op') g') (ha : JE R X W a fa) (hb : JE R X W b fb) (hc : JE R X W c fc)
    (hm : lastMarks [op, op'] [b, c] = false := by with_unfolding_all rfl) : JE R X W (.Compare a [op, op'] [b, c] pos) (dChain g g' fa fb fc) := by
  refine wkE (pe_chain ho ho' ha hb hc hm) fun σ H Q h => ?_
  obtain ⟨m, F, ρ, w, er, p⟩ := h
  refine ⟨m, F, ρ, w, er, p.split.mono fun x m1 F1 H1 s1 p1 v rv => ⟨m1, F1, ρ, s1.wf, er.up s1.up, p1.split.mono fun y m2 F2 H2 s2 p2 u ru => ?_⟩⟩
  obtain ⟨d, e, p3⟩ := Post.opt s2.wf p2.split
  refine ⟨m2, F2, x, y, d, s2.wf, rv.up s2.up, ru, e, fun F' H' v' st r => ?_⟩
  obtain ⟨k, e2, p4⟩ := Post.opt st.wf (p3.from st).split
  rw [asB_some e2] at r
  refine ⟨k, rep_bl r, ?_⟩
  cases k with
  | false => exact Post.ret st.wf p4 _ (.bl false)
  | true =>
    refine ⟨m2, F', ρ, st.wf, er.up (s1.up.trans (s2.up.trans st.up)), p4.split.mono fun z m3 F3 H3 s3 p5 w' rw' => ?_⟩
    cases e3 : g' y z with
    | none => rw [e3] at p5; exact p5.elim
    | some d3 =>
      rw [e3] at p5
      exact ⟨m3, F3, y, z, d3, s3.wf, ru.up (st.up.trans s3.up), rw', e3, fun F4 H4 v4 st4 r4 => p5 F4 H4 st4 v4 r4⟩
theorem jb_of {e : Expr} {fa : DEnv → Mo R.M D} (h : JE R X W e fa) (he : ∀ whole, isTrue e X.env whole = (do let v ← whole; standAt e.pos; holding [v] (truthy v)) := by intro _; rfl) : JB R X W e (bOf fa) := by
  refine wkT (pt_val h he) fun σ H Q h => ?_
  obtain ⟨m, F, ρ, w, er, p⟩ := h
  refine ⟨m, F, ρ, w, er, p.split.mono fun x m1 F1 H1 s1 p1 v rv => ?_⟩
  obtain ⟨k, e2, q⟩ := Post.opt s1.wf p1
  rw [asB_some e2] at rv
  exact ⟨k, rep_bl rv, q⟩
theorem truth_ok {K : PySem.W.Frag} {F H : Hp} {v : V} {d : D} {b : Bool} (r : Rep K F v d) (sub : Same F H) (h : truth d = some b) : TruV K v H b := by
  have up := r.up sub
  cases d with
  | non => cases r; cases h; rfl
  | bl c => cases r; cases h; rfl
  | int i => cases r; cases h; rfl
  | str y =>
    cases r
    unfold truth at h
    dsimp only at h
    split at h
    · rename_i hz
      cases h
      exact ⟨hz, rfl⟩
    · cases h
  | tup xs =>
    cases h
    cases up with
    | tup s l =>
      refine .inr (.inl ⟨_, s.sq (Same.refl _), ?_⟩)
      cases l <;> rfl
  | lst xs =>
    cases h
    cases up with
    | lst s l =>
      refine .inl ⟨_, SqL.of s, ?_⟩
      cases l <;> rfl
  | dic0 =>
    cases h
    cases up with
    | dic0 e => exact .inr (.inr ⟨_, e, rfl⟩)
  | _ => cases h
theorem jb_tru {e : Expr} {fa : DEnv → Mo R.M D} (h : JE R X W e fa) (he : ∀ whole, isTrue e X.env whole = (do let v ← whole; standAt e.pos; holding [v] (truthy v)) := by intro _; rfl) : JB R X W e (bTru fa) := by
  refine wkT (pt_truth h he) fun σ H Q h => ?_
  obtain ⟨m, F, ρ, w, er, p⟩ := h
  refine ⟨m, F, ρ, w, er, p.split.mono fun x m1 F1 H1 s1 p1 v rv => ?_⟩
  obtain ⟨k, e2, q⟩ := Post.opt s1.wf p1
  exact ⟨k, truth_ok rv s1.wf.sub e2, q⟩
theorem jb_not {e : Expr} {c : DEnv → Mo R.M Bool} {pos} (h : JB R X W e c) : JB R X W (.UnaryOp .Not e pos) (bNot c) := by
  refine wkT (pt_not h) fun σ H Q h => ?_
  obtain ⟨m, F, ρ, w, er, p⟩ := h
  exact ⟨m, F, ρ, w, er, p.split.mono fun x m1 F1 H1 s1 p1 => p1.ret s1.wf⟩
theorem jw_and1 {e : Expr} {c : DEnv → Mo R.M Bool} {pos} (h : JB R X W e c) : JW R X W (.BoolOp .And [e] pos) c := pw_and1 h
theorem jw_or1 {e : Expr} {c : DEnv → Mo R.M Bool} {pos} (h : JB R X W e c) : JW R X W (.BoolOp .Or [e] pos) c := pw_or1 h
theorem jw_and {a b : Expr} {rest : List Expr} {c d : DEnv → Mo R.M Bool} {pos} (ha : JB R X W a c) (hb : JW R X W (.BoolOp .And (b :: rest) pos) d) : JW R X W (.BoolOp .And (a :: b :: rest) pos) (bAnd c d) := by
  refine wkW (pw_and ha hb) fun σ H Q h => ?_
  obtain ⟨m, F, ρ, w, er, p⟩ := h
  refine ⟨m, F, ρ, w, er, p.split.mono fun x m1 F1 H1 s1 p1 => ?_⟩
  cases x with
  | true => exact ⟨m1, F1, ρ, s1.wf, er.up s1.up, p1⟩
  | false => exact Post.ret s1.wf p1
theorem jw_or {a b : Expr} {rest : List Expr} {c d : DEnv → Mo R.M Bool} {pos} (ha : JB R X W a c) (hb : JW R X W (.BoolOp .Or (b :: rest) pos) d) : JW R X W (.BoolOp .Or (a :: b :: rest) pos) (bOr c d) := by
  refine wkW (pw_or ha hb) fun σ H Q h => ?_
  obtain ⟨m, F, ρ, w, er, p⟩ := h
  refine ⟨m, F, ρ, w, er, p.split.mono fun x m1 F1 H1 s1 p1 => ?_⟩
  cases x with
  | true => exact Post.ret s1.wf p1
  | false => exact ⟨m1, F1, ρ, s1.wf, er.up s1.up, p1⟩
theorem jb_w {e : Expr} {c : DEnv → Mo R.M Bool} (h : JW R X W e c) : JB R X W e c := h.pt
theorem je_one {op} {e : Expr} {fa : DEnv → Mo R.M D} {pos} (h : JE R X W e fa) : JE R X W (.BoolOp op [e] pos) fa := pe_one h
theorem je_and {a b : Expr} {rest : List Expr} {fa fb : DEnv → Mo R.M D} {pos} (ha : JE R X W a fa) (hb : JE R X W (.BoolOp .And (b :: rest) pos) fb) : JE R X W (.BoolOp .And (a :: b :: rest) pos) (dAnd fa fb) := by
  refine wkE (pe_and ha hb) fun σ H Q h => ?_
  obtain ⟨m, F, ρ, w, er, p⟩ := h
  refine ⟨m, F, ρ, w, er, p.split.mono fun x m1 F1 H1 s1 p1 v rv => ?_⟩
  obtain ⟨k, e2, q⟩ := Post.opt s1.wf p1.split
  rw [asB_some e2] at rv
  refine ⟨k, rep_bl rv, ?_⟩
  cases k with
  | true => exact ⟨m1, F1, ρ, s1.wf, er.up s1.up, q⟩
  | false => exact Post.ret s1.wf q _ (.bl false)
theorem je_or {a b : Expr} {rest : List Expr} {fa fb : DEnv → Mo R.M D} {pos} (ha : JE R X W a fa) (hb : JE R X W (.BoolOp .Or (b :: rest) pos) fb) : JE R X W (.BoolOp .Or (a :: b :: rest) pos) (dOr fa fb) := by
  refine wkE (pe_or ha hb) fun σ H Q h => ?_
  obtain ⟨m, F, ρ, w, er, p⟩ := h
  refine ⟨m, F, ρ, w, er, p.split.mono fun x m1 F1 H1 s1 p1 v rv => ?_⟩
  obtain ⟨k, e2, q⟩ := Post.opt s1.wf p1.split
  rw [asB_some e2] at rv
  refine ⟨k, rep_bl rv, ?_⟩
  cases k with
  | false => exact ⟨m1, F1, ρ, s1.wf, er.up s1.up, q⟩
  | true => exact Post.ret s1.wf q _ (.bl true)
theorem je_not {e : Expr} {fa : DEnv → Mo R.M D} {pos} (h : JE R X W e fa) : JE R X W (.UnaryOp .Not e pos) (dNot fa) := by
  refine wkE (pe_not h) fun σ H Q h => ?_
  obtain ⟨m, F, ρ, w, er, p⟩ := h
  refine ⟨m, F, ρ, w, er, p.split.mono fun x m1 F1 H1 s1 p1 v rv => ?_⟩
  obtain ⟨k, e2, q⟩ := Post.opt s1.wf p1.split
  rw [asB_some e2] at rv
  exact ⟨k, rep_bl rv, Post.ret s1.wf q _ (.bl _)⟩
theorem je_ife {c a b : Expr} {fc : DEnv → Mo R.M Bool} {fa fb : DEnv → Mo R.M D} {pos} (hc : JB R X W c fc) (ha : JE R X W a fa) (hb : JE R X W b fb) : JE R X W (.IfExp c a b pos) (dIf fc fa fb) := by
  refine wkE (pe_ifExp hc ha hb) fun σ H Q h => ?_
  obtain ⟨m, F, ρ, w, er, p⟩ := h
  refine ⟨m, F, ρ, w, er, p.split.mono fun x m1 F1 H1 s1 p1 => ?_⟩
  cases x with
  | true => exact ⟨m1, F1, ρ, s1.wf, er.up s1.up, p1⟩
  | false => exact ⟨m1, F1, ρ, s1.wf, er.up s1.up, p1⟩
def rU1 (R : Res) (K : PySem.W.Frag) (g : D → Option D) : V → Hp → VK → Prop := fun x H Q => ∃ m F dx d, Wf R m F H ∧ Rep K F x dx ∧ g dx = some d ∧ ∀ F' H' v, Stp R m F H m F' H' → Rep K F' v d → Q v H'
theorem je_un {op : UnaryOp} {g : D → Option D} {a : Expr} {fa : DEnv → Mo R.M D} {pos : Pos} (ho : UnR X (unaryOp op) (rU1 R X.K g)) (ha : JE R X W a fa) : JE R X W (.UnaryOp op a pos) (dUn g fa) := by
  refine wkE (pe_un ho ha) fun σ H Q h => ?_
  obtain ⟨m, F, ρ, w, er, p⟩ := h
  refine ⟨m, F, ρ, w, er, p.split.mono fun x m1 F1 H1 s1 p1 v rv => ?_⟩
  cases e : g x with
  | none => rw [e] at p1; exact p1.elim
  | some d =>
    rw [e] at p1
    exact ⟨m1, F1, x, d, s1.wf, rv, e, fun F' H' v' st r => p1 F' H' st v' r⟩
def negF : D → Option D
  | .int i => some (.int (-i))
  | _ => none
theorem un_negD : UnR X (unaryOp .USub) (rU1 R X.K negF) := by
  intro pins s σ H x v Q I rx h
  obtain ⟨m, F, dx, d, w, r, e, q⟩ := h
  cases dx with
  | int i =>
    cases r
    cases e
    exact un_neg pins s σ H _ v Q I rx ⟨i, rfl, q F H _ (Stp.refl w) (.int _)⟩
  | _ => cases e
/-! ### subscripts -/
theorem je_ix {g : D → D → Option D} {a b : Expr} {fa fb : DEnv → Mo R.M D} {pos : Pos} (hr : IxR X (rD R X.K g)) (ha : JE R X W a fa) (hb : JE R X W b fb) (hs : PlainIx b := by exact fun _ _ => rfl) : JE R X W (.Subscript a b pos) (dBin g fa fb) := by
  refine wkE (pe_ix hr ha hb hs) fun σ H Q h => ?_
  obtain ⟨m, F, ρ, w, er, p⟩ := h
  refine ⟨m, F, ρ, w, er, p.split.mono fun x m1 F1 H1 s1 p1 v rv => ⟨m1, F1, ρ, s1.wf, er.up s1.up, p1.split.mono fun y m2 F2 H2 s2 p2 u ru => ?_⟩⟩
  cases e : g x y with
  | none => rw [e] at p2; exact p2.elim
  | some d =>
    rw [e] at p2
    exact ⟨m2, F2, x, y, d, s2.wf, rv.up s2.up, ru, e, fun F' H' v' st r => p2 F' H' st v' r⟩
end
end DE

/-! DE3: operators, comparisons, subscripts, built-ins over data. -/
namespace DE
open PySem PySem.Spec PyProof.Rows L2
section
variable {R : Res} {X : Cx} {W : WX}
/-! ### + - * // % ** -/
def addF : D → D → Option D
  | .int i, .int j => some (.int (i + j))
  | .str a, .str b => if a.length + b.length ≤ sizeLine then some (.str (a ++ b)) else none
  | .tup a, .tup b => if a.length + b.length ≤ sizeLine then some (.tup (a ++ b)) else none
  | .lst a, .lst b => if a.length + b.length ≤ sizeLine then some (.lst (a ++ b)) else none
  | _, _ => none
theorem rep_tup {K : PySem.W.Frag} {F : Hp} {v : V} {ds : List D} (r : Rep K F v (.tup ds)) : ∃ a xs, v = .ref a ∧ TupAt K F a xs ∧ RepL K F xs ds := by
  cases r with
  | tup s l => exact ⟨_, _, rfl, s, l⟩
theorem rep_lst {K : PySem.W.Frag} {F : Hp} {v : V} {ds : List D} (r : Rep K F v (.lst ds)) : ∃ a xs, v = .ref a ∧ F a = some (.lst xs) ∧ RepL K F xs ds := by
  cases r with
  | lst s l => exact ⟨_, _, rfl, s, l⟩
theorem rep_int {K : PySem.W.Frag} {F : Hp} {v : V} {i : Int} (r : Rep K F v (.int i)) : v = .int i := by cases r; rfl
theorem rep_str {K : PySem.W.Frag} {F : Hp} {v : V} {i : Str} (r : Rep K F v (.str i)) : v = .str i := by cases r; rfl
theorem repL_nil {K : PySem.W.Frag} {F : Hp} {vs : List V} (r : RepL K F vs []) : vs = [] := by cases r; rfl
theorem repL_ne {K : PySem.W.Frag} {F : Hp} {ds : List D} (r : RepL K F [] ds) : ds = [] := by cases r; rfl
theorem opd_add : OpD R X (binaryOp .Add) addF := by
  intro pins s σ H x y v u Q I rx ry h
  obtain ⟨m, F, dx, dy, d, w, r1, r2, e, q⟩ := h
  have here := fun (v : V) (r : Rep X.K F v d) => q F H v (Stp.refl w) r
  cases dx with
  | int i =>
    cases dy with
    | int j =>
      cases e
      rw [rep_int r1] at rx
      rw [rep_int r2] at ry
      exact op_add pins s σ H _ _ v u Q I rx ry ⟨i, j, rfl, rfl, here _ (.int _)⟩
    | _ => cases e
  | str i =>
    cases dy with
    | str j =>
      unfold addF at e
      dsimp only at e
      split at e
      · rename_i hz
        cases e
        rw [rep_str r1] at rx
        rw [rep_str r2] at ry
        exact op_add_str pins s σ H _ _ v u Q I rx ry ⟨i, j, rfl, rfl, hz, here _ (.str _)⟩
      · cases e
    | _ => cases e
  | tup a =>
    cases dy with
    | tup b =>
      unfold addF at e
      dsimp only at e
      split at e
      · rename_i hz
        cases e
        obtain ⟨p1, xs, rfl, t1, l1⟩ := rep_tup r1
        obtain ⟨p2, ys, rfl, t2, l2⟩ := rep_tup r2
        refine op_catA pins s σ H _ _ v u Q I rx ry ⟨p1, p2, xs, ys, rfl, rfl, t1.sq w.sub, t2.sq w.sub, by rw [l1.length, l2.length]; exact hz, fun z => ?_, fun _ z => ?_, fun _ _ p hp => ?_⟩
        · subst z
          rw [repL_ne l1] at here
          exact here _ (.tup t2 l2)
        · subst z
          have := repL_ne l2
          subst this
          rw [List.append_nil] at here
          exact here _ (.tup t1 l1)
        · have st := Stp.new w hp (o := .tup (xs ++ ys)) (fun _ z => nomatch z)
          exact q _ _ _ st (.tup (.inl upd_same) ((l1.append l2).up st.up))
      · cases e
    | _ => cases e
  | lst a =>
    cases dy with
    | lst b =>
      unfold addF at e
      dsimp only at e
      split at e
      · rename_i hz
        cases e
        obtain ⟨p1, xs, rfl, t1, l1⟩ := rep_lst r1
        obtain ⟨p2, ys, rfl, t2, l2⟩ := rep_lst r2
        refine op_cat pins s σ H _ _ v u Q I rx ry ⟨p1, p2, xs, ys, rfl, rfl, w.sub _ _ t1, w.sub _ _ t2, by rw [l1.length, l2.length]; exact hz, fun p hp => ?_⟩
        have st := Stp.new w hp (o := .lst (xs ++ ys)) (fun _ z => nomatch z)
        exact q _ _ _ st (.lst upd_same ((l1.append l2).up st.up))
      · cases e
    | _ => cases e
  | _ => cases e
def subF : D → D → Option D
  | .int i, .int j => some (.int (i - j))
  | _, _ => none
theorem opd_sub : OpD R X (binaryOp .Sub) subF := by
  intro pins s σ H x y v u Q I rx ry h
  obtain ⟨m, F, dx, dy, d, w, r1, r2, e, q⟩ := h
  cases dx with
  | int i =>
    cases dy with
    | int j =>
      cases e
      rw [rep_int r1] at rx
      rw [rep_int r2] at ry
      exact op_sub pins s σ H _ _ v u Q I rx ry ⟨i, j, rfl, rfl, q F H _ (Stp.refl w) (.int _)⟩
    | _ => cases e
  | _ => cases e
/-- two ints, one of them below 2^64; a text, a tuple, a list, times a small number -/
def mulF : D → D → Option D
  | .int i, .int j => if i.natAbs < 2 ^ 64 ∨ j.natAbs < 2 ^ 64 then some (.int (i * j)) else none
  | .str a, .int k => if 1 ≤ k ∧ k ≤ 1000 ∧ a.length ≤ 1000 then some (.str (Txt.mul a k)) else none
  | .tup a, .int k => if 2 ≤ k ∧ k ≤ 1000 ∧ a.length ≤ 1000 ∧ a ≠ [] then some (.tup (List.replicate k.toNat a).flatten) else none
  | .lst a, .int k => if 0 ≤ k ∧ k ≤ 1000 ∧ a.length ≤ 1000 then some (.lst (List.replicate k.toNat a).flatten) else none
  | _, _ => none
theorem RepL.rep {K : PySem.W.Frag} {F : Hp} {vs : List V} {ds : List D} (h : RepL K F vs ds) : ∀ n : Nat, RepL K F (List.replicate n vs).flatten (List.replicate n ds).flatten
  | 0 => .nil
  | n + 1 => by
    rw [List.replicate_succ, List.replicate_succ, List.flatten_cons, List.flatten_cons]
    exact h.append (RepL.rep h n)
theorem mulOk_small {x : Str} {n : Int} (h1 : 1 ≤ n) (h2 : n ≤ 1000) (h3 : x.length ≤ 1000) : MulOk x n := by
  refine ⟨?_, fun _ _ => ?_, fun _ _ => ?_⟩
  · rw [decide_eq_false (by omega), decide_eq_false (by omega)]; rfl
  · intro h
    have : (2 ^ 63 - 1 : Int) / 1000 ≤ (2 ^ 63 - 1) / n := by
      refine Int.le_ediv_of_mul_le (by omega) ?_
      have : (2 ^ 63 - 1 : Int) / 1000 * n ≤ (2 ^ 63 - 1 : Int) / 1000 * 1000 := Int.mul_le_mul_of_nonneg_left h2 (by decide)
      omega
    omega
  · unfold Builtin.Str.tooLong
    have : x.length * n.toNat ≤ 1000 * 1000 := Nat.mul_le_mul h3 (by omega)
    rw [decide_eq_false_iff_not, sizeLine_eq]
    omega
theorem opd_mul : OpD R X (binaryOp .Mult) mulF := by
  intro pins s σ H x y v u Q I rx ry h
  obtain ⟨m, F, dx, dy, d, w, r1, r2, e, q⟩ := h
  have here := fun (v : V) (r : Rep X.K F v d) => q F H v (Stp.refl w) r
  cases dy with
  | int k =>
    rw [rep_int r2] at ry
    cases dx with
    | int i =>
      unfold mulF at e
      dsimp only at e
      split at e
      · rename_i hz
        cases e
        rw [rep_int r1] at rx
        exact op_mul pins s σ H _ _ v u Q I rx ry ⟨i, k, rfl, rfl, hz.imp (fun h => ⟨by omega, by omega⟩) (fun h => ⟨by omega, by omega⟩), here _ (.int _)⟩
      · cases e
    | str a =>
      unfold mulF at e
      dsimp only at e
      split at e
      · rename_i hz
        cases e
        rw [rep_str r1] at rx
        obtain ⟨t, rfl⟩ := rx
        obtain ⟨t', rfl⟩ := ry
        exact SB.mul (mulOk_small hz.1 hz.2.1 hz.2.2) fun t' k => ⟨.str _, H, I.tok _, ⟨_, rfl⟩, here _ (.str _)⟩
      · cases e
    | tup a =>
      unfold mulF at e
      dsimp only at e
      split at e
      · rename_i hz
        cases e
        obtain ⟨p1, xs, rfl, t1, l1⟩ := rep_tup r1
        refine op_repT pins s σ H _ _ v u Q I rx ry ⟨p1, k, xs, rfl, rfl, t1.sq w.sub, fun z => ?_, hz.1, hz.2.1, by rw [l1.length]; exact hz.2.2.1, fun p hp => ?_⟩
        · subst z
          exact hz.2.2.2 (repL_ne l1)
        · have st := Stp.new w hp (o := .tup (List.replicate k.toNat xs).flatten) (fun _ z => nomatch z)
          exact q _ _ _ st (.tup (.inl upd_same) ((l1.rep _).up st.up))
      · cases e
    | lst a =>
      unfold mulF at e
      dsimp only at e
      split at e
      · rename_i hz
        cases e
        obtain ⟨p1, xs, rfl, t1, l1⟩ := rep_lst r1
        refine op_rep pins s σ H _ _ v u Q I rx ry ⟨p1, k, xs, rfl, rfl, w.sub _ _ t1, by omega, by omega, ?_, fun p hp => ?_⟩
        · rw [l1.length, sizeLine_eq]
          have : a.length * k.toNat ≤ 1000 * 1000 := Nat.mul_le_mul hz.2.2 (by omega)
          omega
        · have st := Stp.new w hp (o := .lst (List.replicate k.toNat xs).flatten) (fun _ z => nomatch z)
          exact q _ _ _ st (.lst upd_same ((l1.rep _).up st.up))
      · cases e
    | _ => cases e
  | _ => cases dx <;> cases e
def divF : D → D → Option D
  | .int i, .int j => if 0 < j ∧ j.natAbs.log2 < 9000 then some (.int (i / j)) else none
  | _, _ => none
theorem opd_div : OpD R X (binaryOp .FloorDiv) divF := by
  intro pins s σ H x y v u Q I rx ry h
  obtain ⟨m, F, dx, dy, d, w, r1, r2, e, q⟩ := h
  cases dx with
  | int i =>
    cases dy with
    | int j =>
      unfold divF at e
      dsimp only at e
      split at e
      · rename_i hz
        cases e
        rw [rep_int r1] at rx
        rw [rep_int r2] at ry
        exact op_fdivW pins s σ H _ _ v u Q I rx ry ⟨i, j, rfl, rfl, hz, q F H _ (Stp.refl w) (.int _)⟩
      · cases e
    | _ => cases e
  | _ => cases e
def modF : D → D → Option D
  | .int i, .int j => if 0 < j then some (.int (i % j)) else none
  | _, _ => none
theorem opd_mod : OpD R X (binaryOp .Mod) modF := by
  intro pins s σ H x y v u Q I rx ry h
  obtain ⟨m, F, dx, dy, d, w, r1, r2, e, q⟩ := h
  cases dx with
  | int i =>
    cases dy with
    | int j =>
      unfold modF at e
      dsimp only at e
      split at e
      · rename_i hz
        cases e
        rw [rep_int r1] at rx
        rw [rep_int r2] at ry
        exact op_mod pins s σ H _ _ v u Q I rx ry ⟨i, j, rfl, rfl, hz, q F H _ (Stp.refl w) (.int _)⟩
      · cases e
    | _ => cases e
  | _ => cases e
def powF : D → D → Option D
  | .int i, .int j => if 0 ≤ j ∧ j ≤ 1000 ∧ i.natAbs < 2 ^ 64 then some (.int (i ^ j.toNat)) else none
  | _, _ => none
theorem opd_pow : OpD R X (binaryOp .Pow) powF := by
  intro pins s σ H x y v u Q I rx ry h
  obtain ⟨m, F, dx, dy, d, w, r1, r2, e, q⟩ := h
  cases dx with
  | int i =>
    cases dy with
    | int j =>
      unfold powF at e
      dsimp only at e
      split at e
      · rename_i hz
        cases e
        rw [rep_int r1] at rx
        rw [rep_int r2] at ry
        exact op_pow pins s σ H _ _ v u Q I rx ry ⟨i, j, rfl, rfl, ⟨hz.1, by omega, hz.2.2⟩, q F H _ (Stp.refl w) (.int _)⟩
      · cases e
    | _ => cases e
  | _ => cases e

/-! ### == and != -/
mutual
def toPy : D → Option PyData
  | .non => some .none
  | .bl b => some (.bool b)
  | .int i => some (.int i)
  | .str x => some (.str x)
  | .tup xs => (toPyL xs).map .tuple
  | .lst xs => (toPyL xs).map .list
  | _ => none
def toPyL : List D → Option (List PyData)
  | [] => some []
  | x :: xs => match toPy x, toPyL xs with
    | some a, some b => some (a :: b)
    | _, _ => none
end
mutual
theorem Rep.dp {K : PySem.W.Frag} {F : Hp} : ∀ {d : D} {v : V} {p : PyData}, Rep K F v d → toPy d = some p → Dp K F v p
  | .non, _, _, r, e => by cases r; simp only [toPy] at e; cases e; exact .non
  | .bl b, _, _, r, e => by cases r; simp only [toPy] at e; cases e; exact .bl b
  | .int b, _, _, r, e => by cases r; simp only [toPy] at e; cases e; exact .int b
  | .str b, _, _, r, e => by cases r; simp only [toPy] at e; cases e; exact .str b
  | .tup ds, _, _, r, e => by
    simp only [toPy] at e
    cases z : toPyL ds with
    | none => rw [z] at e; cases e
    | some l =>
      rw [z] at e
      cases e
      cases r with
      | tup s q => exact .tup (s.sq (Same.refl _)) (RepL.dp q z)
  | .lst ds, _, _, r, e => by
    simp only [toPy] at e
    cases z : toPyL ds with
    | none => rw [z] at e; cases e
    | some l =>
      rw [z] at e
      cases e
      cases r with
      | lst s q => exact .lst (SqL.of s) (RepL.dp q z)
  | .ty _, _, _, r, e => by simp [toPy] at e
  | .dic0, _, _, r, e => by simp [toPy] at e
  | .scr _, _, _, r, e => by simp [toPy] at e
  | .obj _ _, _, _, r, e => by simp [toPy] at e
  | .hdl _, _, _, r, e => by simp [toPy] at e
  | .cls _, _, _, r, e => by simp [toPy] at e
  | .exo _ _ _, _, _, r, e => by simp [toPy] at e
theorem RepL.dp {K : PySem.W.Frag} {F : Hp} : ∀ {d : List D} {v : List V} {p : List PyData}, RepL K F v d → toPyL d = some p → DpAll K F v p
  | [], _, _, r, e => by cases r; simp only [toPyL] at e; cases e; exact .nil
  | d :: ds, _, _, r, e => by
    simp only [toPyL] at e
    cases z : toPy d with
    | none => rw [z] at e; cases e
    | some a =>
      cases z2 : toPyL ds with
      | none => rw [z, z2] at e; cases e
      | some b =>
        rw [z, z2] at e
        cases e
        cases r with
        | cons r1 r2 => exact .cons (Rep.dp r1 z) (RepL.dp r2 z2)
end
mutual
theorem dp_up {K : PySem.W.Frag} {F H : Hp} (h : Same F H) : ∀ {p : PyData} {v : V}, Dp K F v p → Dp K H v p
  | _, _, .non => .non
  | _, _, .bl b => .bl b
  | _, _, .int b => .int b
  | _, _, .str b => .str b
  | _, _, .lst s l => .lst (SqL.up h s) (dpAll_up h l)
  | _, _, .tup s l => .tup (SqT.up h s) (dpAll_up h l)
theorem dpAll_up {K : PySem.W.Frag} {F H : Hp} (h : Same F H) : ∀ {p : List PyData} {v : List V}, DpAll K F v p → DpAll K H v p
  | _, _, .nil => .nil
  | _, _, .cons r l => .cons (dp_up h r) (dpAll_up h l)
end
/-- == where both are plain data; any other two kinds are the prover's own -/
def eqB (x y : D) : Option Bool := match toPy x, toPy y with
  | some a, some b => if SeqAt.shaped a = true ∧ SeqAt.shaped b = true then some (PyData.eqv a b) else none
  | _, _ => none
def eqF (x y : D) : Option D := (eqB x y).map .bl
def neF (x y : D) : Option D := (eqB x y).map fun b => .bl (!b)
theorem eqB_some {x y : D} {b : Bool} (h : eqB x y = some b) : ∃ p q, toPy x = some p ∧ toPy y = some q ∧ SeqAt.shaped p = true ∧ SeqAt.shaped q = true ∧ b = PyData.eqv p q := by
  unfold eqB at h
  cases z : toPy x with
  | none => rw [z] at h; cases h
  | some p =>
    cases z2 : toPy y with
    | none => rw [z, z2] at h; cases h
    | some q =>
      rw [z, z2] at h
      dsimp only at h
      split at h
      · rename_i hs
        cases h
        exact ⟨p, q, rfl, rfl, hs.1, hs.2, rfl⟩
      · cases h
theorem opd_eq (hu : X.A.units + 64 < cLine) : OpD R X (compareOp .Eq) eqF := by
  intro pins s σ H x y v u Q I rx ry h
  obtain ⟨m, F, dx, dy, d, w, r1, r2, e, q⟩ := h
  unfold eqF at e
  cases z : eqB dx dy with
  | none => rw [z] at e; cases e
  | some b =>
    rw [z] at e
    cases e
    obtain ⟨p, p', e1, e2, s1, s2, rfl⟩ := eqB_some z
    exact op_eqD hu pins s σ H x y v u Q I rx ry ⟨p, p', dp_up w.sub (r1.dp e1), dp_up w.sub (r2.dp e2), s1, s2, q F H _ (Stp.refl w) (.bl _)⟩
theorem opd_ne (hu : X.A.units + 64 < cLine) : OpD R X (compareOp .NotEq) neF := by
  intro pins s σ H x y v u Q I rx ry h
  obtain ⟨m, F, dx, dy, d, w, r1, r2, e, q⟩ := h
  unfold neF at e
  cases z : eqB dx dy with
  | none => rw [z] at e; cases e
  | some b =>
    rw [z] at e
    cases e
    obtain ⟨p, p', e1, e2, s1, s2, rfl⟩ := eqB_some z
    exact op_neD hu pins s σ H x y v u Q I rx ry ⟨p, p', dp_up w.sub (r1.dp e1), dp_up w.sub (r2.dp e2), s1, s2, q F H _ (Stp.refl w) (.bl _)⟩

/-! ### < <= > >= -/
def ltS (a b : Str) : Bool := decide (a.cps.toList < b.cps.toList)
def ltF : D → D → Option D
  | .int i, .int j => some (.bl (decide (i < j)))
  | .str i, .str j => some (.bl (ltS i j))
  | _, _ => none
def leF : D → D → Option D
  | .int i, .int j => some (.bl (decide (i ≤ j)))
  | .str i, .str j => some (.bl (!ltS j i))
  | _, _ => none
def gtF : D → D → Option D
  | .int i, .int j => some (.bl (decide (j < i)))
  | .str i, .str j => some (.bl (ltS j i))
  | _, _ => none
def geF : D → D → Option D
  | .int i, .int j => some (.bl (decide (j ≤ i)))
  | .str i, .str j => some (.bl (!ltS i j))
  | _, _ => none
theorem opd_ord {op : CmpOp} {fi : Int → Int → Bool} {fs : Str → Str → Bool} {g : D → D → Option D} (hg : ∀ x y d, g x y = some d → (∃ i j, x = .int i ∧ y = .int j ∧ d = .bl (fi i j)) ∨ ∃ i j, x = .str i ∧ y = .str j ∧ d = .bl (fs i j))
    (hi : OpR X (compareOp op) (rI0 fun i j => .bl (fi i j)))
    (hs : ∀ (x y : Str) (t u : Tok) (s : Shared) (Q : Value → Shared → Prop), Q (.bool (fs x y)) s → wpAny (model X.prog X.w) X.A (compareOp op (.str x t) (.str y u)) Q X.xe s) : OpD R X (compareOp op) g := by
  intro pins s σ H x y v u Q I rx ry h
  obtain ⟨m, F, dx, dy, d, w, r1, r2, e, q⟩ := h
  rcases hg _ _ _ e with ⟨i, j, rfl, rfl, rfl⟩ | ⟨i, j, rfl, rfl, rfl⟩
  · rw [rep_int r1] at rx
    rw [rep_int r2] at ry
    exact hi pins s σ H _ _ v u Q I rx ry ⟨i, j, rfl, rfl, q F H _ (Stp.refl w) (.bl _)⟩
  · rw [rep_str r1] at rx
    rw [rep_str r2] at ry
    obtain ⟨t, rfl⟩ := rx
    obtain ⟨t', rfl⟩ := ry
    exact hs i j t t' s _ ⟨.bl _, H, I, rfl, q F H _ (Stp.refl w) (.bl _)⟩
theorem opd_lt : OpD R X (compareOp .Lt) ltF := opd_ord (fi := fun i j => decide (i < j)) (fs := ltS) (fun x y d h => by cases x <;> cases y <;> first | (cases h; first | exact .inl ⟨_, _, rfl, rfl, rfl⟩ | exact .inr ⟨_, _, rfl, rfl, rfl⟩) | cases h) op_lt fun _ _ _ _ _ _ h => PySem.P.lt_str h
theorem opd_le : OpD R X (compareOp .LtE) leF := opd_ord (fi := fun i j => decide (i ≤ j)) (fs := fun i j => !ltS j i) (fun x y d h => by cases x <;> cases y <;> first | (cases h; first | exact .inl ⟨_, _, rfl, rfl, rfl⟩ | exact .inr ⟨_, _, rfl, rfl, rfl⟩) | cases h) op_le fun _ _ _ _ _ _ h => PySem.P.le_str h
theorem opd_gt : OpD R X (compareOp .Gt) gtF := opd_ord (fi := fun i j => decide (j < i)) (fs := fun i j => ltS j i) (fun x y d h => by cases x <;> cases y <;> first | (cases h; first | exact .inl ⟨_, _, rfl, rfl, rfl⟩ | exact .inr ⟨_, _, rfl, rfl, rfl⟩) | cases h) op_gt fun _ _ _ _ _ _ h => PySem.P.gt_str h
theorem opd_ge : OpD R X (compareOp .GtE) geF := opd_ord (fi := fun i j => decide (j ≤ i)) (fs := fun i j => !ltS i j) (fun x y d h => by cases x <;> cases y <;> first | (cases h; first | exact .inl ⟨_, _, rfl, rfl, rfl⟩ | exact .inr ⟨_, _, rfl, rfl, rfl⟩) | cases h) op_ge fun _ _ _ _ _ _ h => PySem.P.ge_str h

/-! ### is None -/
def isN : D → Bool
  | .non => true
  | _ => false
def isF : D → D → Option D
  | x, .non => some (.bl (isN x))
  | _, _ => none
def isnotF : D → D → Option D
  | x, .non => some (.bl (!isN x))
  | _, _ => none
theorem isN_rep {K : PySem.W.Frag} {F : Hp} {v : V} {d : D} (r : Rep K F v d) : decide (v = .non) = isN d := by
  cases r <;> rfl
theorem opd_is : OpD R X (compareOp .Is) isF := by
  intro pins s σ H x y v u Q I rx ry h
  obtain ⟨m, F, dx, dy, d, w, r1, r2, e, q⟩ := h
  cases dy with
  | non =>
    cases r2
    cases e
    exact op_isN pins s σ H _ _ v u Q I rx ry ⟨rfl, q F H _ (Stp.refl w) (by rw [isN_rep r1]; exact .bl _)⟩
  | _ => cases e
theorem opd_isnot : OpD R X (compareOp .IsNot) isnotF := by
  intro pins s σ H x y v u Q I rx ry h
  obtain ⟨m, F, dx, dy, d, w, r1, r2, e, q⟩ := h
  cases dy with
  | non =>
    cases r2
    cases e
    exact op_notN pins s σ H _ _ v u Q I rx ry ⟨rfl, q F H _ (Stp.refl w) (by rw [isN_rep r1]; exact .bl _)⟩
  | _ => cases e
end
end DE

/-! DE4: calls, loops, comprehensions, statements, a def's contract. -/
namespace DE
open PySem PySem.Spec PyProof.Rows L2
/-! ### calls of built-ins -/
def rC (R : Res) (K : PySem.W.Frag) (g : List D → Option D) : List V → Hp → VK → Prop := fun xs H Q => ∃ m F ds d, Wf R m F H ∧ RepL K F xs ds ∧ g ds = some d ∧ ∀ F' H' v, Stp R m F H m F' H' → Rep K F' v d → Q v H'
abbrev CallD (R : Res) (X : Cx) (f : Value) (g : List D → Option D) : Prop := CallR X f (rC R X.K g)
def dCall {M : Type} (g : List D → Option D) (l : DEnv → Mo M (List D)) : DEnv → Mo M D := fun ρ => Mo.bnd (l ρ) fun xs => Mo.opt (g xs)
/-- a def of the program, by its contract -/
def dFn {M : Type} (g : List D → Mo M D) (l : DEnv → Mo M (List D)) : DEnv → Mo M D := fun ρ => Mo.bnd (l ρ) fun xs => g xs
def liftP {M α : Type} (o : Out Unit α) : Mo M α := fun m => match o with
  | .ok a _ => .ok a m
  | .exc C f d _ => .exc C f d m
  | .bad => .bad
/-- .. that changes nothing but data -/
def dFnP {M : Type} (g : List D → Out Unit D) (l : DEnv → Mo M (List D)) : DEnv → Mo M D := fun ρ => Mo.bnd (l ρ) fun xs => liftP (g xs)
section
variable {R : Res} {X : Cx} {W : WX}
theorem callD_weak {σ : L2.St} {H : Hp} {Q : VK} {g : List D → Option D} {l : DEnv → Mo R.M (List D)} (h : tD R X.K W (dCall g l) σ H Q) : tCB (rC R X.K g) (tL R X.K W l) σ H Q := by
  obtain ⟨m, F, ρ, w, er, p⟩ := h
  refine ⟨m, F, ρ, w, er, p.split.mono fun xs m1 F1 H1 s1 p1 vs rvs => ?_⟩
  cases e : g xs with
  | none => rw [e] at p1; exact p1.elim
  | some d =>
    rw [e] at p1
    exact ⟨m1, F1, xs, d, s1.wf, rvs, e, fun F' H' v st r => p1 F' H' st v r⟩
theorem je_blt {id : String} {g : List D → Option D} {l : DEnv → Mo R.M (List D)} {x : Str} {p pos : Pos} {e : Expr} {es : List Expr} (hc : CallD R X (.builtin id) g) (hm : X.mg x = none) (hv : bootBuiltins x = some (.builtin id)) (hl : JL R X W (e :: es) l) (hg : Gl X x := by rfl)
    (hn : x ≠ "__name__" := by decide) (hdb : (x == ("__debug__" : Str)) = false := by decide) (he : starEach (e :: es) X.env = (false, eval e X.env) :: starEach es X.env := by rfl) (hpl : (backTo pos (starEach es X.env)).any (·.1) = false := by rfl) :
    JE R X W (.Call (.Name x p) (e :: es) [] pos) (dCall g l) := wkE (pe_callB hc hg hm hv hl hn hdb he hpl) fun _ _ _ h => callD_weak h
theorem je_bty {T : String} {g : List D → Option D} {l : DEnv → Mo R.M (List D)} {x : Str} {p pos : Pos} {e : Expr} {es : List Expr} (hc : CallD R X (.type T) g) (hm : X.mg x = none) (hv : bootBuiltins x = some (.type T)) (hl : JL R X W (e :: es) l) (hg : Gl X x := by rfl)
    (hn : x ≠ "__name__" := by decide) (hdb : (x == ("__debug__" : Str)) = false := by decide) (he : starEach (e :: es) X.env = (false, eval e X.env) :: starEach es X.env := by rfl) (hpl : (backTo pos (starEach es X.env)).any (·.1) = false := by rfl) :
    JE R X W (.Call (.Name x p) (e :: es) [] pos) (dCall g l) := wkE (pe_callTy hc hg hm hv hl hn hdb he hpl) fun _ _ _ h => callD_weak h
end

/-! ### a def's contract -/
def spD (R : Res) (K : PySem.W.Frag) (n : Nat) (g : List D → Mo R.M D) : Sp := fun vs H Q E => vs.length = n ∧ ∃ m F ds, Wf R m F H ∧ RepL K F vs ds ∧ Post R K (fun cls d _ H => E cls d H) [] m F H (g ds m) fun d _ F' H' => ∀ v, Rep K F' v d → Q v H'
/-- as FnOk, where nothing is being shown by repr around -/
structure FnG (P : Program) (w : World) (K : PySem.W.Frag) (mg : Str → Option Value) (base : Heap) (k : Nat) (f : Addr) (fd : FuncData) (ps : List Str) (sp : Sp) : Prop where
  len : ∀ vs H Q E, sp vs H Q E → vs.length = ps.length
  run : ∀ (A : Around) (outer : List Env) (s : Shared) (H : Hp) (args : Args) (us : List Value) (vs : List V) (Q : VK) (E : XK), Room k A → A.guards = some [] → Env0 P w K mg base A outer s H →
    BindsTo s fd args (ps.zip us) → Vals vs us → sp vs H Q E → codeAny (model P w) A (.call (.ref f) args) (CR (L2.CX P w) outer P w H s Q E) s
theorem FnG.mono {P : Program} {w : World} {K : PySem.W.Frag} {mg : Str → Option Value} {base : Heap} {j k : Nat} {f : Addr} {fd : FuncData} {ps : List Str} {sp : Sp} (F : FnG P w K mg base j f fd ps sp) (h : j ≤ k) : FnG P w K mg base k f fd ps sp :=
  ⟨F.len, fun A outer s H args us vs Q E hr => F.run A outer s H args us vs Q E (hr.mono h)⟩
theorem FnG.imp {P : Program} {w : World} {K : PySem.W.Frag} {mg : Str → Option Value} {base : Heap} {k : Nat} {f : Addr} {fd : FuncData} {ps : List Str} {sp sp' : Sp} (F : FnG P w K mg base k f fd ps sp) (h : ∀ vs H Q E, sp' vs H Q E → sp vs H Q E) : FnG P w K mg base k f fd ps sp' :=
  ⟨fun vs H Q E q => F.len vs H Q E (h _ _ _ _ q), fun A outer s H args us vs Q E hr hg he hb hv hs => F.run A outer s H args us vs Q E hr hg he hb hv (h _ _ _ _ hs)⟩
theorem Post.lift {α : Type} {R : Res} {K : PySem.W.Frag} {W : WX} {σ : L2.St} {m : R.M} {F H : Hp} {o : Out Unit α} {Q : α → Hp → Hp → Prop} (w : Wf R m F H) (p : Post R K W σ m F H (liftP o m) fun a _ F' H' => Q a F' H') : Post unitR K W σ () F H o fun a _ F' H' => Q a F' H' := by
  cases o with
  | ok a _ => exact fun F' H' s => p F' H' (s.lift w)
  | exc C f d _ => exact fun v dd F' H' s => p v dd F' H' (s.lift w)
  | bad => exact p
/-- a contract that speaks of data alone, used with more around -/
theorem FnG.lift {P : Program} {w : World} {K : PySem.W.Frag} {mg : Str → Option Value} {base : Heap} {k n : Nat} {f : Addr} {fd : FuncData} {ps : List Str} {g : List D → Mo Unit D} {R : Res} (F : FnG P w K mg base k f fd ps (spD unitR K n g)) :
    FnG P w K mg base k f fd ps (spD R K n fun ds => liftP (g ds ())) := F.imp fun vs H Q E ⟨hl, m, F, ds, wf, r, p⟩ => ⟨hl, (), F, ds, wf.unit, r, p.lift wf⟩
section
variable {R : Res} {X : Cx} {W : WX} {k n : Nat} {f : Addr} {fd : FuncData} {ps : List Str}
theorem run_g {sp : Sp} {E : XK} {pins : List (Addr × Obj)} {σ : L2.St} {H : Hp} {s : Shared} {Q : VK} {us : List Value} {vs : List V} (F : FnG X.prog X.w X.K X.mg X.base k f fd ps sp) (hr : Room k X.A) (hg : X.A.guards = some []) (hb : Binds X.K fd ps [])
    (tk : Takes X W) (hE : ∀ cls d H', E cls d H' → W cls d σ H') (I : Inv X pins σ H s) (r : Vals vs us) (h : sp vs H Q E) : wpAny (model X.prog X.w) X.A (call (.ref f) us) (EP X pins σ Q) X.xe s := by
  have hl : us.length = ps.length := (r.length).symm.trans (F.len _ _ _ _ h)
  have b := hb s us I.kIn (by rw [List.append_nil]; exact hl)
  rw [List.append_nil] at b
  refine wpAny_call (codeAny_mono (F.run X.A X.stack s H ⟨us, []⟩ us vs Q E hr hg I.env0 b r h) fun res s' hq => ?_)
  match res, hq with
  | .error e, hq => exact tk e s' (XE.of_call I hE hq)
  | .ok (.ret u), hq => exact I.after hq
/-- f(..), f a def of the program -/
theorem je_fn {g : List D → Mo R.M D} {l : DEnv → Mo R.M (List D)} {x : Str} {p pos : Pos} {e : Expr} {es : List Expr} (F : FnG X.prog X.w X.K X.mg X.base k f fd ps (spD R X.K n g)) (hr : Room k X.A) (hgd : X.A.guards = some []) (hm : X.mg x = some (.ref f))
    (hk : PySem.W.keepIn X.K (.ref f) = true) (hb : Binds X.K fd ps []) (tk : Takes X W) (hn : (e :: es).length = n) (hl : JL R X W (e :: es) l) (hlen : ∀ ρ m, match l ρ m with | .ok xs _ => xs.length = n | _ => True) (hg : Gl X x := by rfl)
    (hdb : (x == ("__debug__" : Str)) = false := by decide) (he : starEach (e :: es) X.env = (false, eval e X.env) :: starEach es X.env := by rfl) (hpl : (backTo pos (starEach es X.env)).any (·.1) = false := by rfl) :
    JE R X W (.Call (.Name x p) (e :: es) [] pos) (dFn g l) := by
  refine ⟨fun pins s σ H Q I h => ?_⟩
  obtain ⟨m, F0, ρ, w, er, p0⟩ := h
  refine wpAny_Call_Name_kw (ld_glob I hg hm ?_ hdb)
  have p1 : Post R X.K W σ m F0 H (l ρ m) fun ds m1 F1 H1 => ds.length = n ∧ Post R X.K W σ m1 F1 H1 (g ds m1) fun d _ F' H' => ∀ v, Rep X.K F' v d → Q v H' := by
    have q := p0.split
    have z := hlen ρ m
    cases e1 : l ρ m with
    | ok xs m1 =>
      rw [e1] at q z
      exact fun F' H' s => ⟨z, q F' H' s⟩
    | exc C f d m1 => rw [e1] at q; exact q
    | bad => rw [e1] at q; exact q
  refine PySem.W.callWith_K (h₀ := X.base) I.ok.mod.kin hk (thn (hl.run pos pins s σ H (fun vs H1 => ∃ ds m1 F1, RepL X.K F1 vs ds ∧ Wf R m1 F1 H1 ∧ ds.length = n ∧ Post R X.K W σ m1 F1 H1 (g ds m1) fun d _ F' H' => ∀ v, Rep X.K F' v d → Q v H') I
    ⟨m, F0, ρ, w, er, p1.mono fun ds m1 F1 H1 s1 q vs rvs => ⟨ds, m1, F1, rvs, s1.wf, q⟩⟩) fun us s1 ⟨vs, H1, I1, r, ds, m1, F1, rvs, wf1, hz, q⟩ => ⟨I1.kIn, ?_⟩) he hpl
  refine run_g F hr hgd hb tk (E := fun cls d H' => W cls d σ H') (fun _ _ _ z => z) I1 r ⟨by rw [rvs.length]; exact hz, m1, F1, ds, wf1, rvs, ?_⟩
  cases e2 : g ds m1 with
  | ok d m2 => rw [e2] at q; exact q
  | exc C f d m2 => rw [e2] at q; exact q
  | bad => rw [e2] at q; exact q
end
/-- how many a list of arguments gives -/
theorem len_nil {M : Type} (ρ : DEnv) (m : M) : match (dNil (M := M)) ρ m with | .ok xs _ => xs.length = 0 | _ => True := rfl
theorem len_cons {M : Type} {n : Nat} {a : DEnv → Mo M D} {l : DEnv → Mo M (List D)} (h : ∀ ρ m, match l ρ m with | .ok xs _ => xs.length = n | _ => True) (ρ : DEnv) (m : M) : match (dCons a l) ρ m with | .ok xs _ => xs.length = n + 1 | _ => True := by
  unfold dCons Mo.bnd
  cases e : a ρ m with
  | ok x m1 =>
    dsimp only
    have z := h ρ m1
    cases e2 : l ρ m1 with
    | ok xs m2 =>
      rw [e2] at z
      dsimp only
      show (x :: xs).length = n + 1
      rw [List.length_cons, z]
    | exc _ _ _ _ => trivial
    | bad => trivial
  | exc _ _ _ _ => trivial
  | bad => trivial

/-! ### targets -/
inductive Tg where
  | one (i : Nat) | many (is : List Nat)
def bindL : List Nat → List D → DEnv → Option DEnv
  | [], [], ρ => some ρ
  | i :: is, d :: ds, ρ => bindL is ds (ρ.set i (some d))
  | _, _, _ => none
def bindT : Tg → D → DEnv → Option DEnv
  | .one i, d, ρ => some (ρ.set i (some d))
  | .many is, .tup ds, ρ => bindL is ds ρ
  | _, _, _ => none
def Tg.slots : Tg → List Nat
  | .one i => [i]
  | .many is => is
/-- the slots are the same but at those -/
def But (is : List Nat) (σ σ' : L2.St) : Prop := σ'.length = σ.length ∧ ∀ i, i ∉ is → σ'[i]? = σ[i]?
theorem But.refl (is : List Nat) (σ : L2.St) : But is σ σ := ⟨rfl, fun _ _ => rfl⟩
theorem But.set {is : List Nat} {σ : L2.St} {i : Nat} {v : Option V} (h : i ∈ is) : But is σ (σ.set i v) := ⟨List.length_set, fun j hj => by
  rw [List.getElem?_set_ne]
  intro e
  subst e
  exact hj h⟩
theorem But.trans {is : List Nat} {σ σ1 σ2 : L2.St} (a : But is σ σ1) (b : But is σ1 σ2) : But is σ σ2 := ⟨b.1.trans a.1, fun i h => (b.2 i h).trans (a.2 i h)⟩
theorem But.mono {is js : List Nat} {σ σ' : L2.St} (a : But is σ σ') (h : ∀ i ∈ is, i ∈ js) : But js σ σ' := ⟨a.1, fun i hi => a.2 i fun z => hi (h i z)⟩
theorem wipe_get (σ : L2.St) : ∀ (vs : List Nat) (i : Nat), (L2.wipe σ vs)[i]? = if i ∈ vs then (if i < σ.length then some none else none) else σ[i]?
  | [], i => by simp [L2.wipe]
  | v :: vs, i => by
    unfold L2.wipe
    by_cases e : v = i
    · subst e
      rw [if_pos List.mem_cons_self]
      by_cases hl : v < σ.length
      · rw [List.getElem?_set_self (by rw [L2.wipe_length]; exact hl), if_pos hl]
      · rw [List.getElem?_eq_none (by rw [List.length_set, L2.wipe_length]; omega), if_neg hl]
    · rw [List.getElem?_set_ne e, wipe_get σ vs i]
      have : (i ∈ v :: vs) ↔ i ∈ vs := by simp only [List.mem_cons]; exact ⟨fun h => h.elim (fun z => absurd z.symm e) id, .inr⟩
      simp only [this]
theorem But.wipe {vs : List Nat} {σ σ' : L2.St} (h : But vs σ σ') : L2.wipe σ' vs = L2.wipe σ vs := by
  refine List.ext_getElem? fun i => ?_
  rw [wipe_get, wipe_get, h.1]
  by_cases hi : i ∈ vs
  · rw [if_pos hi, if_pos hi]
  · rw [if_neg hi, if_neg hi, h.2 i hi]
theorem wipe_wipe (vs : List Nat) (σ : L2.St) : L2.wipe (L2.wipe σ vs) vs = L2.wipe σ vs := by
  refine List.ext_getElem? fun i => ?_
  rw [wipe_get, wipe_get, L2.wipe_length]
  by_cases hi : i ∈ vs
  · rw [if_pos hi, if_pos hi]
  · rw [if_neg hi, if_neg hi]
def tG (R : Res) (K : PySem.W.Frag) (T : Tg) : TG := fun v σ H Q => ∃ (m : R.M) (F : Hp) (ρ : DEnv) (d : D) (ρ' : DEnv), Wf R m F H ∧ EnvR K F σ ρ ∧ Rep K F v d ∧ bindT T d ρ = some ρ' ∧ ∀ σ', EnvR K F σ' ρ' → But T.slots σ σ' → Q σ' H
abbrev JG (R : Res) (X : Cx) (tg : Expr) (T : Tg) : Prop := PG X tg (tG R X.K T)
section
variable {R : Res} {X : Cx} {W : WX}
theorem wkG {e : Expr} {t t' : TG} (h : PG X e t) (k : ∀ v σ H Q, t' v σ H Q → t v σ H Q) : PG X e t' := ⟨fun pins s σ H v u Q I r q => h.run pins s σ H v u Q I r (k _ _ _ _ q)⟩
theorem jg_one {i : Nat} {x : Str} {pos : Pos} (hN : X.N.Nodup) (hi : X.N[i]? = some x := by rfl) (hx : Loc X.env.scope x := by first | exact Or.inl rfl | exact Or.inr rfl)
    (hf : X.fn x = true ∨ X.env.scope.names.lookup x = some .local := by first | exact .inl rfl | exact .inr rfl) : JG R X (.Name x pos) (.one i) := by
  refine wkG (pg_name hN hi hx hf) fun v σ H Q ⟨m, F, ρ, d, ρ', w, er, r, e, q⟩ => ?_
  cases e
  exact q _ (er.set i r) (But.set List.mem_cons_self)
/-- several names, one after another -/
inductive JGs (R : Res) (X : Cx) : List Expr → List Nat → Prop
  | nil : JGs R X [] []
  | cons {e : Expr} {es : List Expr} {i : Nat} {is : List Nat} (h : PG X e (gName i)) (hs : (assignEach (e :: es) X.env).map (·.2) = assign e X.env :: (assignEach es X.env).map (·.2)) (r : JGs R X es is) : JGs R X (e :: es) (i :: is)
def gNames : List Nat → TGs
  | [] => gNil
  | i :: is => gCons (gName i) (gNames is)
theorem JGs.pgs {es : List Expr} {is : List Nat} (h : JGs R X es is) : PGs X es (gNames is) := by
  induction h with
  | nil => exact pgs_nil
  | cons h hs _ ih => exact pgs_cons h ih hs
theorem gNames_ok {K : PySem.W.Frag} {F : Hp} {H : Hp} {Q : L2.St → Hp → Prop} : ∀ {is : List Nat} {vs : List V} {ds : List D} {σ : L2.St} {ρ ρ' : DEnv}, RepL K F vs ds → EnvR K F σ ρ → bindL is ds ρ = some ρ' → (∀ σ', EnvR K F σ' ρ' → But is σ σ' → Q σ' H) → gNames is vs σ H Q
  | [], vs, [], σ, ρ, ρ', r, er, e, q => by
    cases r
    cases e
    exact ⟨rfl, q σ er (But.refl _ _)⟩
  | i :: is, vs, d :: ds, σ, ρ, ρ', r, er, e, q => by
    cases r with
    | cons r1 r2 => exact ⟨_, _, rfl, gNames_ok r2 (er.set i r1) e fun σ' e' b => q σ' e' ((But.set (σ := σ) List.mem_cons_self).trans (b.mono fun j hj => List.mem_cons_of_mem _ hj))⟩
  | [], vs, _ :: _, σ, ρ, ρ', r, er, e, q => by cases e
  | _ :: _, vs, [], σ, ρ, ρ', r, er, e, q => by cases e
theorem jg_many {es : List Expr} {is : List Nat} {k : Nat} {pos : Pos} (hc : X.calm = true) (h : JGs R X es is) (hn : (assignEach es X.env).length = is.length := by rfl) (hst : (assignEach es X.env).findIdx? (·.1) = none := by rfl) : JG R X (.Tuple es k pos) (.many is) := by
  refine wkG (pg_tup hc h.pgs hn hst) fun v σ H Q ⟨m, F, ρ, d, ρ', w, er, r, e, q⟩ => ?_
  cases d with
  | tup ds =>
    obtain ⟨a, xs, rfl, t, l⟩ := rep_tup r
    refine ⟨a, xs, rfl, t.sq w.sub, ?_, gNames_ok l er e q⟩
    have : ∀ {is : List Nat} {ds : List D} {ρ ρ' : DEnv}, bindL is ds ρ = some ρ' → ds.length = is.length := by
      intro is
      induction is with
      | nil =>
        intro ds ρ ρ' e
        cases ds with
        | nil => rfl
        | cons _ _ => cases e
      | cons i is ih =>
        intro ds ρ ρ' e
        cases ds with
        | nil => cases e
        | cons d ds => rw [List.length_cons, List.length_cons, ih e]
    rw [l.length]
    exact this e
  | _ => cases e
end

/-! ### what is walked -/
structure ItOk (R : Res) (K : PySem.W.Frag) (J : It) (F : Hp) (ds : List D) : Prop where
  at_ : ∀ {m : R.M} {F2 H2 : Hp}, Same F F2 → Wf R m F2 H2 → ∀ i, (ds.length ≤ i → J.stop i H2) ∧ ∀ d, ds[i]? = some d → J.go i H2 ∧ ∀ x H3, J.yld i H2 x H3 → ∃ F3, Stp R m F2 H2 m F3 H3 ∧ Rep K F3 x d
def tI (R : Res) (K : PySem.W.Frag) (W : WX) (f : DEnv → Mo R.M (List D)) : TI := fun σ H Rr => ∃ m F ρ, Wf R m F H ∧ EnvR K F σ ρ ∧ Post R K W σ m F H (f ρ m) fun ds _ F' H' => ∀ J, ItOk R K J F' ds → Rr J H'
abbrev JI (R : Res) (X : Cx) (W : WX) (tg iter : Expr) (f : DEnv → Mo R.M (List D)) : Prop := PI X tg iter (tI R X.K W f)
theorem wkI {X : Cx} {tg e : Expr} {t t' : TI} (h : PI X tg e t) (k : ∀ σ H Q, t' σ H Q → t σ H Q) : PI X tg e t' := ⟨fun pins s σ H Q I q => h.run pins s σ H Q I (k _ _ _ q)⟩
def seqOf : D → Option (List D)
  | .lst xs => some xs
  | .scr ns => some (ns.map .int)
  | _ => none
def tupOf : D → Option (List D)
  | .tup xs => some xs
  | _ => none
def dSeqI {M : Type} (a : DEnv → Mo M D) : DEnv → Mo M (List D) := fun ρ => Mo.bnd (a ρ) fun x => Mo.opt (seqOf x)
def dTupI {M : Type} (a : DEnv → Mo M D) : DEnv → Mo M (List D) := fun ρ => Mo.bnd (a ρ) fun x => Mo.opt (tupOf x)
def rangeD (lo hi : Int) : List D := (List.range (hi - lo).toNat).map fun i => D.int (lo + (i : Nat))
def rng1 : List D → Option (List D)
  | [.int j] => if -(2 ^ 62) ≤ j ∧ j < 2 ^ 62 then some (rangeD 0 j) else none
  | _ => none
def rng2 : List D → Option (List D)
  | [.int i, .int j] => if -(2 ^ 62) ≤ i ∧ i < 2 ^ 62 ∧ -(2 ^ 62) ≤ j ∧ j < 2 ^ 62 then some (rangeD i j) else none
  | _ => none
def dRng1 {M : Type} (l : DEnv → Mo M (List D)) : DEnv → Mo M (List D) := fun ρ => Mo.bnd (l ρ) fun xs => Mo.opt (rng1 xs)
def dRng2 {M : Type} (l : DEnv → Mo M (List D)) : DEnv → Mo M (List D) := fun ρ => Mo.bnd (l ρ) fun xs => Mo.opt (rng2 xs)
section
variable {R : Res} {X : Cx} {W : WX} {tg : Expr}
theorem RepL.ints {K : PySem.W.Frag} {F : Hp} : ∀ ns : List Int, RepL K F (ns.map V.int) (ns.map D.int)
  | [] => .nil
  | n :: ns => .cons (.int n) (RepL.ints ns)
theorem ji_list {e : Expr} {a : DEnv → Mo R.M D} (h : JE R X W e a) : JI R X W tg e (dSeqI a) := by
  refine wkI (pi_list h) fun σ H Rr ⟨m, F, ρ, w, er, p⟩ => ?_
  refine ⟨m, F, ρ, w, er, p.split.mono fun x m1 F1 H1 s1 p1 v rv => ?_⟩
  obtain ⟨ds, e1, q⟩ := Post.opt s1.wf p1
  obtain ⟨b, xs, rfl, hs, l⟩ : ∃ b xs, v = .ref b ∧ (∀ F2, Same F1 F2 → SqL X.K F2 b xs) ∧ RepL X.K F1 xs ds := by
    cases x with
    | lst ys =>
      cases e1
      obtain ⟨b, xs, rfl, t, l⟩ := rep_lst rv
      exact ⟨b, xs, rfl, fun F2 up => SqL.of (up _ _ t), l⟩
    | scr ns =>
      cases e1
      cases rv with
      | scr t => exact ⟨_, _, rfl, fun F2 up => SqL.up up t, RepL.ints ns⟩
    | _ => cases e1
  refine ⟨b, rfl, ⟨xs, hs _ s1.wf.sub⟩, q _ ⟨fun {m2 F2 H2} up w2 i => ⟨fun hi => ⟨xs, hs _ (up.trans w2.sub), by rw [l.length]; exact hi⟩, fun d hd => ?_⟩⟩⟩
  obtain ⟨y, hy, ry⟩ := l.getD hd
  exact ⟨⟨xs, y, hs _ (up.trans w2.sub), hy⟩, fun z H3 hz => ⟨F2, by rw [hz.1]; exact Stp.refl w2, by
    have := hz.2 xs (hs _ (up.trans w2.sub))
    rw [hy] at this
    cases this
    exact ry.up up⟩⟩
theorem ji_tup {e : Expr} {a : DEnv → Mo R.M D} (h : JE R X W e a) : JI R X W tg e (dTupI a) := by
  refine wkI (pi_tup h) fun σ H Rr ⟨m, F, ρ, w, er, p⟩ => ?_
  refine ⟨m, F, ρ, w, er, p.split.mono fun x m1 F1 H1 s1 p1 v rv => ?_⟩
  obtain ⟨ds, e1, q⟩ := Post.opt s1.wf p1
  cases x with
  | tup ys =>
    cases e1
    obtain ⟨b, xs, rfl, t, l⟩ := rep_tup rv
    refine ⟨b, rfl, ⟨xs, t.sq s1.wf.sub⟩, q _ ⟨fun {m2 F2 H2} up w2 i => ⟨fun hi => ⟨xs, t.sq (up.trans w2.sub), by rw [l.length]; exact hi⟩, fun d hd => ?_⟩⟩⟩
    obtain ⟨y, hy, ry⟩ := l.getD hd
    exact ⟨⟨xs, y, t.sq (up.trans w2.sub), hy⟩, fun z H3 hz => ⟨F2, by rw [hz.1]; exact Stp.refl w2, by
      have := hz.2 xs (t.sq (up.trans w2.sub))
      rw [hy] at this
      cases this
      exact ry.up up⟩⟩
  | _ => cases e1
theorem itr_ok {K : PySem.W.Frag} {F : Hp} {lo : Int} {n : Nat} : ItOk R K (Itr lo n) F ((List.range n).map fun i => D.int (lo + (i : Nat))) := ⟨fun {m2 F2 H2} up w2 i => ⟨fun hi => by
    rw [List.length_map, List.length_range] at hi
    exact hi, fun d hd => by
    rw [List.getElem?_map] at hd
    cases e : (List.range n)[i]? with
    | none => rw [e] at hd; cases hd
    | some j =>
      rw [e] at hd
      cases hd
      have hl : i < n := by
        have := (List.getElem?_eq_some_iff.mp e).1
        rwa [List.length_range] at this
      have hj : j = i := by
        have := (List.getElem?_eq_some_iff.mp e).2
        rw [List.getElem_range] at this
        exact this.symm
      subst hj
      exact ⟨hl, fun z H3 hz => ⟨F2, by rw [hz.1]; exact Stp.refl w2, by rw [hz.2]; exact .int _⟩⟩⟩⟩
theorem ji_rng1 {a : Expr} {l : DEnv → Mo R.M (List D)} {p pos : Pos} (hm : X.mg "range" = none) (hl : JL R X W [a] l) (hg : Gl X "range" := by rfl) (hs : starEach [a] X.env = [(false, eval a X.env)] := by rfl) :
    JI R X W tg (.Call (.Name "range" p) [a] [] pos) (dRng1 l) := by
  refine wkI (pi_range1 hg hm hl hs) fun σ H Rr ⟨m, F, ρ, w, er, p⟩ => ?_
  refine ⟨m, F, ρ, w, er, p.split.mono fun xs m1 F1 H1 s1 p1 vs rvs => ?_⟩
  obtain ⟨ds, e1, q⟩ := Post.opt s1.wf p1
  cases rvs with
  | nil => cases e1
  | cons r1 r2 =>
    cases r2 with
    | cons _ _ => simp [rng1] at e1
    | nil =>
      cases r1 with
      | int j =>
        unfold rng1 at e1
        dsimp only at e1
        split at e1
        · rename_i hz
          cases e1
          refine ⟨j, rfl, hz.1, hz.2, q _ ?_⟩
          have : rangeD 0 j = (List.range j.toNat).map fun i => D.int (0 + (i : Nat)) := by unfold rangeD; rw [Int.sub_zero]
          rw [this]
          exact itr_ok
        · cases e1
      | _ => simp [rng1] at e1
theorem ji_rng2 {a b : Expr} {l : DEnv → Mo R.M (List D)} {p pos : Pos} (hm : X.mg "range" = none) (hl : JL R X W [a, b] l) (hg : Gl X "range" := by rfl) (hs : starEach [a, b] X.env = [(false, eval a X.env), (false, eval b X.env)] := by rfl)
    (hs2 : starEach [b] X.env = [(false, eval b X.env)] := by rfl) : JI R X W tg (.Call (.Name "range" p) [a, b] [] pos) (dRng2 l) := by
  refine wkI (pi_range2 hg hm hl hs hs2) fun σ H Rr ⟨m, F, ρ, w, er, p⟩ => ?_
  refine ⟨m, F, ρ, w, er, p.split.mono fun xs m1 F1 H1 s1 p1 vs rvs => ?_⟩
  obtain ⟨ds, e1, q⟩ := Post.opt s1.wf p1
  cases rvs with
  | nil => cases e1
  | cons r1 r2 =>
    cases r2 with
    | nil => cases r1 <;> simp [rng2] at e1
    | cons r2 r3 =>
      cases r3 with
      | cons _ _ => cases r1 <;> cases r2 <;> simp [rng2] at e1
      | nil =>
        cases r1 with
        | int i =>
          cases r2 with
          | int j =>
            unfold rng2 at e1
            dsimp only at e1
            split at e1
            · rename_i hz
              cases e1
              exact ⟨i, j, rfl, hz, q _ itr_ok⟩
            · cases e1
          | _ => simp [rng2] at e1
        | _ => simp [rng2] at e1
end
end DE

/-! DE5: statements, loops, comprehensions, a def by its body. -/
namespace DE
open PySem PySem.Spec PyProof.Rows L2
inductive Fl where
  | next (ρ : DEnv) | ret (d : D) | brk (ρ : DEnv) | cont (ρ : DEnv)
def EndsD (K : PySem.W.Frag) (E : Ends) (F H : Hp) : Fl → Prop
  | .next ρ => ∀ σ, EnvR K F σ ρ → E.nx σ H
  | .ret d => ∀ v, Rep K F v d → E.rt v H
  | .brk ρ => ∀ σ, EnvR K F σ ρ → E.bk σ H
  | .cont ρ => ∀ σ, EnvR K F σ ρ → E.ct σ H
def tS (R : Res) (K : PySem.W.Frag) (W : WX) (f : DEnv → Mo R.M Fl) : TS := fun E σ H => ∃ m F ρ, Wf R m F H ∧ EnvR K F σ ρ ∧ Post R K W σ m F H (f ρ m) fun fl _ F' H' => EndsD K E F' H' fl
abbrev JS (R : Res) (X : Cx) (W : WX) (st : Stmt) (f : DEnv → Mo R.M Fl) : Prop := PS X st (tS R X.K W f)
abbrev JSs (R : Res) (X : Cx) (W : WX) (st : List Stmt) (f : DEnv → Mo R.M Fl) : Prop := PSs X st (tS R X.K W f)
/-- a wish that does not ask for the slots -/
def CW (W : WX) : Prop := ∀ cls d σ σ' H, W cls d σ H → W cls d σ' H
theorem cw_no : CW noW := fun _ _ _ _ _ h => h
theorem Post.env {α : Type} {R : Res} {K : PySem.W.Frag} {W : WX} {σ σ' : L2.St} {m : R.M} {F H : Hp} {o : Out R.M α} {Q : α → R.M → Hp → Hp → Prop} (cw : CW W) (p : Post R K W σ m F H o Q) : Post R K W σ' m F H o Q := by
  cases o with
  | ok a m' => exact p
  | exc C f d m' => exact fun v dd F' H' s r e => cw _ _ _ _ _ (p v dd F' H' s r e)
  | bad => exact p
section
variable {M : Type}
def sNil : DEnv → Mo M Fl := fun ρ => Mo.ret (.next ρ)
def sSeq (a b : DEnv → Mo M Fl) : DEnv → Mo M Fl := fun ρ => Mo.bnd (a ρ) fun fl => match fl with
  | .next ρ' => b ρ'
  | o => Mo.ret o
def sAsg (T : Tg) (e : DEnv → Mo M D) : DEnv → Mo M Fl := fun ρ => Mo.bnd (e ρ) fun d => Mo.bnd (Mo.opt (bindT T d ρ)) fun ρ' => Mo.ret (.next ρ')
def sRet (e : DEnv → Mo M D) : DEnv → Mo M Fl := fun ρ => Mo.bnd (e ρ) fun d => Mo.ret (.ret d)
def sRetN : DEnv → Mo M Fl := fun _ => Mo.ret (.ret .non)
def sExpr (e : DEnv → Mo M D) : DEnv → Mo M Fl := fun ρ => Mo.bnd (e ρ) fun _ => Mo.ret (.next ρ)
def sIf (c : DEnv → Mo M Bool) (a b : DEnv → Mo M Fl) : DEnv → Mo M Fl := fun ρ => Mo.bnd (c ρ) fun k => if k = true then a ρ else b ρ
def sBrk : DEnv → Mo M Fl := fun ρ => Mo.ret (.brk ρ)
def sCont : DEnv → Mo M Fl := fun ρ => Mo.ret (.cont ρ)
/-- two names stored at once -/
def sPar (i j : Nat) (l : DEnv → Mo M (List D)) : DEnv → Mo M Fl := fun ρ => Mo.bnd (l ρ) fun xs => match xs with
  | [a, b] => Mo.ret (.next ((ρ.set i (some a)).set j (some b)))
  | _ => Mo.bad
def wLoop (c : DEnv → Mo M Bool) (b : DEnv → Mo M Fl) : Nat → DEnv → Mo M Fl
  | 0, _ => Mo.bad
  | n + 1, ρ => Mo.bnd (c ρ) fun k => if k = true then Mo.bnd (b ρ) fun fl => match fl with
      | .next ρ' => wLoop c b n ρ'
      | .cont ρ' => wLoop c b n ρ'
      | .brk ρ' => Mo.ret (.next ρ')
      | .ret d => Mo.ret (.ret d)
    else Mo.ret (.next ρ)
def sWhile (n : Nat) (c : DEnv → Mo M Bool) (b : DEnv → Mo M Fl) : DEnv → Mo M Fl := wLoop c b n
def fLoop (T : Tg) (b : DEnv → Mo M Fl) : List D → DEnv → Mo M Fl
  | [], ρ => Mo.ret (.next ρ)
  | d :: ds, ρ => Mo.bnd (Mo.opt (bindT T d ρ)) fun ρ1 => Mo.bnd (b ρ1) fun fl => match fl with
      | .next ρ' => fLoop T b ds ρ'
      | .cont ρ' => fLoop T b ds ρ'
      | .brk ρ' => Mo.ret (.next ρ')
      | .ret d => Mo.ret (.ret d)
def sFor (T : Tg) (it : DEnv → Mo M (List D)) (b : DEnv → Mo M Fl) : DEnv → Mo M Fl := fun ρ => Mo.bnd (it ρ) fun ds => fLoop T b ds ρ
/-- nothing is raised within a comprehension -/
def nox {α : Type} (x : Mo M α) : Mo M α := fun m => match x m with
  | .ok a m' => .ok a m'
  | _ => .bad
/-- the list that a comprehension makes -/
def cLoop (T : Tg) (tt : DEnv → Mo M Bool) (e : DEnv → Mo M D) (ρ : DEnv) : List D → Mo M (List D)
  | [] => Mo.ret []
  | d :: ds => Mo.bnd (Mo.opt (bindT T d ρ)) fun ρ1 => Mo.bnd (nox (tt ρ1)) fun k => if k = true then Mo.bnd (nox (e ρ1)) fun y => Mo.bnd (cLoop T tt e ρ ds) fun ys => Mo.ret (y :: ys) else cLoop T tt e ρ ds
def dLc (T : Tg) (vs : List Nat) (it : DEnv → Mo M (List D)) (tt : DEnv → Mo M Bool) (e : DEnv → Mo M D) : DEnv → Mo M D := fun ρ => Mo.bnd (it ρ) fun ds => Mo.bnd (Mo.opt (if ds.length ≤ sizeLine then some () else none)) fun _ =>
  Mo.bnd (cLoop T tt e (wipeD ρ vs) ds) fun ys => Mo.ret (.lst ys)
def bYes : DEnv → Mo M Bool := fun _ => Mo.ret true
def sRaise (C : Addr) (f : Str) (e : DEnv → Mo M D) : DEnv → Mo M Fl := fun ρ => Mo.bnd (e ρ) fun d m => .exc C f d m
/-- what a def gives back -/
def fin (x : Mo M Fl) : Mo M D := Mo.bnd x fun fl => match fl with
  | .next _ => Mo.ret .non
  | .ret d => Mo.ret d
  | _ => Mo.bad
def startD (N : List Str) (ds : List D) : DEnv := ds.map some ++ List.replicate (N.length - ds.length) none
end
section
variable {R : Res} {X : Cx} {W : WX} {st : Stmt} {rest : List Stmt} {pos : Pos} {e : Expr}
theorem jss_nil : JSs R X W [] sNil := by
  refine wkSs pss_nil fun E σ H ⟨m, F, ρ, w, er, p⟩ => ?_
  exact p.ret w σ er
theorem jss_cons {a b : DEnv → Mo R.M Fl} (cw : CW W) (h1 : JS R X W st a) (h2 : JSs R X W rest b) : JSs R X W (st :: rest) (sSeq a b) := by
  refine wkSs (pss_cons h1 h2) fun E σ H ⟨m, F, ρ, w, er, p⟩ => ?_
  refine ⟨m, F, ρ, w, er, p.split.mono fun fl m1 F1 H1 s1 p1 => ?_⟩
  cases fl with
  | next ρ' => exact fun σ' e' => ⟨m1, F1, ρ', s1.wf, e', p1.env cw⟩
  | ret d => exact Post.ret s1.wf p1
  | brk ρ' => exact Post.ret s1.wf p1
  | cont ρ' => exact Post.ret s1.wf p1
theorem jss_one {a : DEnv → Mo R.M Fl} (h1 : JS R X W st a) : JSs R X W [st] a := pss_one h1
theorem asg_weak {a : DEnv → Mo R.M D} {T : Tg} {E : Ends} {σ : L2.St} {H : Hp} (h : tS R X.K W (sAsg T a) E σ H) : tAsg (tD R X.K W a) (tG R X.K T) E σ H := by
  obtain ⟨m, F, ρ, w, er, p⟩ := h
  refine ⟨m, F, ρ, w, er, p.split.mono fun d m1 F1 H1 s1 p1 v rv => ?_⟩
  obtain ⟨ρ', e1, p2⟩ := Post.opt s1.wf p1.split
  exact ⟨m1, F1, ρ, d, ρ', s1.wf, er.up s1.up, rv, e1, fun σ' er' _ => Post.ret s1.wf p2 σ' er'⟩
/-- several names; a name where nothing is special -/
theorem js_asg {tg : Expr} {a : DEnv → Mo R.M D} {T : Tg} (he : JE R X W e a) (hg : JG R X tg T) (hs : swapsWithSole [tg] e pos.line X.env = pure false := by rfl) (hw : swappedStores [tg] e X.env = pure none := by rfl)
    (h1 : (assignEach [tg] X.env).map (·.2) = [assign tg X.env] := by rfl) : JS R X W (.Assign [tg] e pos) (sAsg T a) := wkS (ps_asg he hg hs hw h1) fun _ _ _ h => asg_weak h
theorem name_weak {a : DEnv → Mo R.M D} {i : Nat} {E : Ends} {σ : L2.St} {H : Hp} (h : tS R X.K W (sAsg (.one i) a) E σ H) : tAsg (tD R X.K W a) (gName i) E σ H := by
  obtain ⟨m, F, ρ, w, er, p⟩ := h
  refine ⟨m, F, ρ, w, er, p.split.mono fun d m1 F1 H1 s1 p1 v rv => ?_⟩
  obtain ⟨ρ', e1, p2⟩ := Post.opt s1.wf p1.split
  cases e1
  exact Post.ret s1.wf p2 _ ((er.up s1.up).set i rv)
theorem js_set {i : Nat} {x : Str} {a : DEnv → Mo R.M D} {pos' : Pos} (hN : X.N.Nodup) (he : JE R X W e a) (hi : X.N[i]? = some x := by rfl) (hx : Loc X.env.scope x := by first | exact Or.inl rfl | exact Or.inr rfl)
    (hs : swapsWith e (some (.Name x pos')) pos.line X.env = pure false := by rfl) (hf : X.fn x = true ∨ X.env.scope.names.lookup x = some .local := by first | exact .inl rfl | exact .inr rfl) : JS R X W (.Assign [.Name x pos'] e pos) (sAsg (.one i) a) :=
  wkS (ps_set hN hi hx he hs hf) fun _ _ _ h => name_weak h
theorem js_ret {a : DEnv → Mo R.M D} (he : JE R X W e a) : JS R X W (.Return (some e) pos) (sRet a) := by
  refine wkS (ps_ret he) fun E σ H ⟨m, F, ρ, w, er, p⟩ => ?_
  exact ⟨m, F, ρ, w, er, p.split.mono fun d m1 F1 H1 s1 p1 => Post.ret s1.wf p1⟩
theorem js_retN : JS R X W (.Return none pos) sRetN := by
  refine wkS ps_retN fun E σ H ⟨m, F, ρ, w, er, p⟩ => ?_
  exact Post.ret w p _ .non
theorem js_expr {a : DEnv → Mo R.M D} (he : JE R X W e a) (hs : swapsWith e none pos.line X.env = pure false := by rfl) : JS R X W (.Expr e pos) (sExpr a) := by
  refine wkS (ps_expr he hs) fun E σ H ⟨m, F, ρ, w, er, p⟩ => ?_
  exact ⟨m, F, ρ, w, er, p.split.mono fun d m1 F1 H1 s1 p1 v rv => Post.ret s1.wf p1 σ (er.up s1.up)⟩
theorem js_pass : JS R X W (.Pass pos) sNil := by
  refine wkS ps_pass fun E σ H ⟨m, F, ρ, w, er, p⟩ => ?_
  exact Post.ret w p σ er
theorem js_cont : JS R X W (.Continue pos) sCont := by
  refine wkS ps_continue fun E σ H ⟨m, F, ρ, w, er, p⟩ => ?_
  exact Post.ret w p σ er
theorem js_brk : JS R X W (.Break pos) sBrk := by
  refine wkS ps_break fun E σ H ⟨m, F, ρ, w, er, p⟩ => ?_
  exact Post.ret w p σ er
theorem js_if {c : Expr} {ba bb : List Stmt} {k : DEnv → Mo R.M Bool} {a b : DEnv → Mo R.M Fl} (hc : JB R X W c k) (ha : JSs R X W ba a) (hb : JSs R X W bb b) : JS R X W (.If c ba bb pos) (sIf k a b) := by
  refine wkS (ps_if hc ha hb) fun E σ H ⟨m, F, ρ, w, er, p⟩ => ?_
  refine ⟨m, F, ρ, w, er, p.split.mono fun x m1 F1 H1 s1 p1 => ?_⟩
  cases x with
  | true => exact ⟨m1, F1, ρ, s1.wf, er.up s1.up, p1⟩
  | false => exact ⟨m1, F1, ρ, s1.wf, er.up s1.up, p1⟩
theorem js_par {i j : Nat} {x y : Str} {ea eb : Expr} {l : DEnv → Mo R.M (List D)} {px py pt : Pos} {kt k2 pt2} (hc : X.calm = true) (hN : X.N.Nodup) (hij : i ≠ j) (hl : JL R X W [ea, eb] l) (hi : X.N[i]? = some x := by rfl) (hj : X.N[j]? = some y := by rfl)
    (hx : X.env.scope.names.lookup x = some .local := by rfl) (hy : X.env.scope.names.lookup y = some .local := by rfl)
    (hw : swappedStores [.Tuple [.Name x px, .Name y py] kt pt] (.Tuple [ea, eb] k2 pt2) X.env = pure (some [x, y]) := by rfl)
    (hs : swapsWithSole [.Tuple [.Name x px, .Name y py] kt pt] (.Tuple [ea, eb] k2 pt2) pos.line X.env = pure false := by rfl) :
    JS R X W (.Assign [.Tuple [.Name x px, .Name y py] kt pt] (.Tuple [ea, eb] k2 pt2) pos) (sPar i j l) := by
  refine wkS (ps_par hc hN hi hj hij hx hy hl hw hs) fun E σ H ⟨m, F, ρ, w, er, p⟩ => ?_
  refine ⟨m, F, ρ, w, er, p.split.mono fun xs m1 F1 H1 s1 p1 vs rvs => ?_⟩
  match xs, rvs, p1 with
  | [a, b], .cons r1 (.cons r2 .nil), p1 => exact ⟨_, _, rfl, Post.ret s1.wf p1 _ (((er.up s1.up).set i r1).set j r2)⟩
  | [], _, p1 => exact p1.elim
  | [_], _, p1 => exact p1.elim
  | _ :: _ :: _ :: _, _, p1 => exact p1.elim
theorem js_while {c : Expr} {body : List Stmt} {k : DEnv → Mo R.M Bool} {b : DEnv → Mo R.M Fl} (n : Nat) (cw : CW W) (hp : PassesOwn (model X.prog X.w) X.A X.env X.xe) (hc : JB R X W c k) (hb : JSs R X W body b) : JS R X W (.While c body [] pos) (sWhile n k b) := by
  refine wkS (ps_while hp hc hb) fun E σ H ⟨m, F, ρ, w, er, p⟩ => ?_
  refine ⟨fun n σ H => ∃ m F ρ, Wf R m F H ∧ EnvR X.K F σ ρ ∧ Post R X.K W σ m F H (wLoop k b n ρ m) fun fl _ F' H' => EndsD X.K E F' H' fl, ⟨n, m, F, ρ, w, er, p⟩, ?_⟩
  rintro n σ H ⟨m, F, ρ, w, er, p⟩
  cases n with
  | zero => exact p.elim
  | succ n =>
    refine ⟨m, F, ρ, w, er, p.split.mono fun x m1 F1 H1 s1 p1 => ?_⟩
    cases x with
    | false => exact Post.ret s1.wf p1 σ (er.up s1.up)
    | true =>
      refine ⟨fun σ' H' => ∃ m F ρ, Wf R m F H' ∧ EnvR X.K F σ' ρ ∧ Post R X.K W σ' m F H' (wLoop k b n ρ m) fun fl _ F' H' => EndsD X.K E F' H' fl, fun σ' H' z => ⟨n, Nat.lt_succ_self n, z⟩, ?_⟩
      refine ⟨m1, F1, ρ, s1.wf, er.up s1.up, p1.split.mono fun fl m2 F2 H2 s2 p2 => ?_⟩
      cases fl with
      | next ρ' => exact fun σ' e' => ⟨m2, F2, ρ', s2.wf, e', p2.env cw⟩
      | cont ρ' => exact fun σ' e' => ⟨m2, F2, ρ', s2.wf, e', p2.env cw⟩
      | brk ρ' => exact fun σ' e' => Post.ret s2.wf p2 σ' e'
      | ret d => exact Post.ret s2.wf p2
theorem js_for {tg iter : Expr} {body : List Stmt} {T : Tg} {it : DEnv → Mo R.M (List D)} {b : DEnv → Mo R.M Fl} (cw : CW W) (hp : PassesOwn (model X.prog X.w) X.A X.env X.xe) (hc : X.calm = true) (hi : JI R X W tg iter it) (hg : JG R X tg T) (hb : JSs R X W body b)
    (hs : ∀ x, foldedSetIterable iter X.env x = pure x := by intro _; rfl) : JS R X W (.For tg iter body [] pos) (sFor T it b) := by
  refine wkS (ps_for hp hc hi hg hb hs) fun E σ H ⟨m, F, ρ, w, er, p⟩ => ?_
  refine ⟨m, F, ρ, w, er, p.split.mono fun ds m1 F1 H1 s1 p1 J hJ => ?_⟩
  refine ⟨fun i n σ H => i + n = ds.length ∧ ∃ m2 F2 ρ2, Same F1 F2 ∧ Wf R m2 F2 H ∧ EnvR X.K F2 σ ρ2 ∧ Post R X.K W σ m2 F2 H (fLoop T b (ds.drop i) ρ2 m2) fun fl _ F' H' => EndsD X.K E F' H' fl,
    ⟨ds.length, Nat.zero_add _, m1, F1, ρ, Same.refl _, s1.wf, er.up s1.up, p1⟩, ?_⟩
  rintro i n σ H ⟨hn, m2, F2, ρ2, up, w2, er2, p2⟩
  have hat := hJ.at_ up w2 i
  by_cases hl : i < ds.length
  · obtain ⟨d, hd⟩ : ∃ d, ds[i]? = some d := ⟨ds[i], List.getElem?_eq_getElem hl⟩
    obtain ⟨hgo, hy⟩ := hat.2 d hd
    have hdrop : ds.drop i = d :: ds.drop (i + 1) := by
      rw [List.drop_eq_getElem_cons hl]
      congr 1
      rw [List.getElem?_eq_getElem hl] at hd
      exact Option.some.inj hd
    rw [hdrop] at p2
    refine .inr ⟨hgo, fun σ' H' => ∃ m2 F2 ρ2, Same F1 F2 ∧ Wf R m2 F2 H' ∧ EnvR X.K F2 σ' ρ2 ∧ Post R X.K W σ' m2 F2 H' (fLoop T b (ds.drop (i + 1)) ρ2 m2) fun fl _ F' H' => EndsD X.K E F' H' fl,
      fun σ' H' z => ⟨n - 1, by omega, by omega, z⟩, fun x H3 y => ?_⟩
    obtain ⟨F3, s3, r3⟩ := hy x H3 y
    obtain ⟨ρ3, e3, p3⟩ := Post.opt s3.wf ((p2.from s3).split)
    refine ⟨m2, F3, ρ2, d, ρ3, s3.wf, er2.up s3.up, r3, e3, fun σ4 er4 _ => ?_⟩
    refine ⟨m2, F3, ρ3, s3.wf, er4, (p3.env cw).split.mono fun fl m5 F5 H5 s5 p5 => ?_⟩
    have up5 : Same F1 F5 := up.trans (s3.up.trans s5.up)
    cases fl with
    | next ρ' => exact fun σ' e' => ⟨m5, F5, ρ', up5, s5.wf, e', p5.env cw⟩
    | cont ρ' => exact fun σ' e' => ⟨m5, F5, ρ', up5, s5.wf, e', p5.env cw⟩
    | brk ρ' => exact fun σ' e' => Post.ret s5.wf p5 σ' e'
    | ret d => exact Post.ret s5.wf p5
  · have hd : ds.drop i = [] := List.drop_eq_nil_of_le (by omega)
    rw [hd] at p2
    exact .inl ⟨hat.1 (by omega), Post.ret w2 p2 σ er2⟩

/-! ### comprehensions -/
/-- the heap without D -/
def hide (H : Hp) (D : Addr) : Hp := fun b => if b = D then none else H b
theorem hide_same {H : Hp} {D : Addr} : hide H D D = none := if_pos rfl
theorem hide_ne {H : Hp} {D b : Addr} (h : b ≠ D) : hide H D b = H b := if_neg h
theorem hide_upd {H : Hp} {D : Addr} {o : HO} : hide (upd H D o) D = hide H D := by
  funext b
  by_cases e : b = D
  · rw [e, hide_same, hide_same]
  · rw [hide_ne e, hide_ne e, upd_ne e]
theorem hide_none {H : Hp} {D : Addr} (h : H D = none) : hide H D = H := by
  funext b
  by_cases e : b = D
  · rw [e, hide_same, h]
  · rw [hide_ne e]
theorem upd_hide {H : Hp} {D : Addr} {o : HO} (h : H D = some o) : upd (hide H D) D o = H := by
  funext b
  by_cases e : b = D
  · rw [e, upd_same, h]
  · rw [upd_ne e, hide_ne e]
theorem Wf.show {m : R.M} {F H : Hp} {D : Addr} (w : Wf R m F (hide H D)) : Wf R m F H ∧ ∀ a, R.own m H a → R.own m (hide H D) a := by
  have ne : ∀ {a o}, hide H D a = some o → a ≠ D := fun {a o} h e => by
    rw [e, hide_same] at h; cases h
  exact w.moved (Same.refl _) (fun a o e => by
    have z := w.sub a o e
    rw [hide_ne (ne z)] at z
    exact z) w.clean w.off fun a h => by
    obtain ⟨o, e, _⟩ := w.trk a h
    rw [hide_ne (ne e)]
theorem Stp.hid {m m' : R.M} {F H F' H' : Hp} {D : Addr} {o : HO} (w : Wf R m F (hide H D)) (hD : H D = some o) (s : Stp R m F H m' F' H') : Stp R m F (hide H D) m' F' (hide H' D) ∧ ¬ R.own m H D ∧ ¬ R.own m' H' D := by
  have fD : F D = none := by
    cases q : F D with
    | none => rfl
    | some u =>
      have z := w.sub D u q
      rw [hide_same] at z; cases z
  have fD' : F' D = none := by
    cases q : F' D with
    | none => rfl
    | some u =>
      have z := s.fresh D fD (by rw [q]; simp)
      rw [hD] at z; cases z
  have nD : ¬ R.own m H D := fun h => by
    obtain ⟨u, e, _⟩ := w.trk D (w.show.2 D h)
    rw [hide_same] at e; cases e
  have nD' : ∀ a, R.own m' H' a → a ≠ D := fun a h e => by
    subst e
    rcases s.ofresh _ h with z | z
    · exact nD z
    · rw [hD] at z; cases z
  have none_of : ∀ {a : Addr}, H a = none → hide H D a = none := fun {a} h => by
    by_cases e : a = D
    · rw [e, hide_same]
    · rw [hide_ne e, h]
  -- what is owned, with D and without
  have own0 : ∀ a, R.own m H a → R.own m (hide H D) a := w.show.2
  have back : ∀ a, R.own m (hide H D) a → R.own m H a := (w.show.1.moved (Same.refl _) w.sub w.clean (fun a h => w.show.1.off a h) fun a h => by
    have e : a ≠ D := fun e => nD (e ▸ h)
    rw [hide_ne e]).2
  obtain ⟨wf', ow'⟩ := s.wf.moved (F' := F') (H' := hide H' D) (Same.refl _) (fun a u h => by
    have e : a ≠ D := fun e => by rw [e, fD'] at h; cases h
    rw [hide_ne e]
    exact s.wf.sub a u h) s.wf.clean s.wf.off fun a h => by rw [hide_ne (nD' a h)]
  refine ⟨⟨s.up, fun a h1 h2 => none_of (s.fresh a h1 h2), fun a u h1 h2 h3 => ?_, fun a h => ?_, fun a h => (s.ofresh a (ow' a h)).imp (own0 a) none_of, wf'⟩, nD, fun h => nD' D h rfl⟩
  · have e : a ≠ D := fun e => by rw [e, hide_same] at h1; cases h1
    rw [hide_ne e] at h1 ⊢
    exact s.keep a u h1 (fun z => h2 (own0 a z)) h3
  · have e : a ≠ D := fun e => h (by rw [e, hide_same])
    rw [hide_ne e] at h ⊢
    exact s.there a h
abbrev JTs (R : Res) (X : Cx) (W : WX) (ifs : List Expr) (f : DEnv → Mo R.M Bool) : Prop := PTs X ifs (tB R X.K W f)
theorem jts_nil : JTs R X W [] bYes := ⟨fun pins s σ H Q I h => by
  obtain ⟨m, F, ρ, w, er, p⟩ := h
  exact pts_nil.run pins s σ H Q I (Post.ret w p)⟩
theorem jts_one {c : Expr} {k : DEnv → Mo R.M Bool} (h : JB R X W c k) : JTs R X W [c] k := pts_one h
def SubB (is js : List Nat) : Prop := ∀ i ∈ is, i ∈ js
theorem bnd_assoc {M α β γ : Type} (x : Mo M α) (k : α → Mo M β) (h : β → Mo M γ) : Mo.bnd (Mo.bnd x k) h = Mo.bnd x fun a => Mo.bnd (k a) h := by
  funext m
  unfold Mo.bnd
  cases x m <;> rfl
theorem Post.nox {α : Type} {K : PySem.W.Frag} {σ σ' : L2.St} {m : R.M} {F H F2 H2 : Hp} {x : Mo R.M α} {Q Q' : α → R.M → Hp → Hp → Prop} (p : Post R K W σ m F H (nox x m) Q) (h : ∀ a m', (∀ F' H', Stp R m F H m' F' H' → Q a m' F' H') → ∀ F' H', Stp R m F2 H2 m' F' H' → Q' a m' F' H') : Post R K noW σ' m F2 H2 (x m) Q' := by
  unfold DE.nox at p
  cases e : x m with
  | ok a m' => rw [e] at p; exact h a m' p
  | exc C f d m' => rw [e] at p; exact p.elim
  | bad => rw [e] at p; exact p.elim
/-- a list that is made anew, and where it will stand -/
def tN (R : Res) (K : PySem.W.Frag) (W : WX) (f : DEnv → Mo R.M (List D)) : TE := fun σ H Q => ∃ m F ρ, Wf R m F H ∧ EnvR K F σ ρ ∧ Post R K W σ m F H (f ρ m) fun ds _ F' H' => ∀ p us, H' p = none → RepL K F' us ds → Q (.ref p) (upd H' p (.lst us))
def cL {M : Type} (T : Tg) (vs : List Nat) (it : DEnv → Mo M (List D)) (tt : DEnv → Mo M Bool) (e : DEnv → Mo M D) : DEnv → Mo M (List D) := fun ρ => Mo.bnd (it ρ) fun ds => Mo.bnd (Mo.opt (if ds.length ≤ sizeLine then some () else none)) fun _ => cLoop T tt e (wipeD ρ vs) ds
theorem dLc_tN {σ : L2.St} {H : Hp} {Q : VK} {T : Tg} {vs : List Nat} {it : DEnv → Mo R.M (List D)} {tt : DEnv → Mo R.M Bool} {a : DEnv → Mo R.M D} (h : tD R X.K W (dLc T vs it tt a) σ H Q) : tN R X.K W (cL T vs it tt a) σ H Q := by
  obtain ⟨m, F, ρ, w, er, p⟩ := h
  refine ⟨m, F, ρ, w, er, ?_⟩
  have e : dLc T vs it tt a ρ = Mo.bnd (cL T vs it tt a ρ) fun ys => Mo.ret (.lst ys) := by
    unfold dLc cL
    rw [bnd_assoc]
    congr 1
    funext ds
    rw [bnd_assoc]
  rw [e] at p
  refine p.split.mono fun ds m1 F1 H1 s1 p1 q us hq rus => ?_
  have st := Stp.new s1.wf hq (o := .lst us) (fun _ z => nomatch z)
  exact p1 _ _ st _ (.lst upd_same (rus.up st.up))
theorem lc_weak {σ : L2.St} {H : Hp} {Q : VK} {T : Tg} {vs : List Nat} {it : DEnv → Mo R.M (List D)} {tt : DEnv → Mo R.M Bool} {a : DEnv → Mo R.M D} (hT : SubB T.slots vs) (h : tN R X.K W (cL T vs it tt a) σ H Q) :
    tLc (tI R X.K W it) (tG R X.K T) (tB R X.K noW tt) (tD R X.K noW a) vs σ H Q := by
  obtain ⟨m, F, ρ, w, er, p⟩ := h
  refine ⟨m, F, ρ, w, er, p.split.mono fun ds m1 F1 H1 s1 p1 J hJ B hB => ?_⟩
  obtain ⟨_, hz, p2⟩ := Post.opt s1.wf p1.split
  have hz : ds.length ≤ sizeLine := by
    by_cases z : ds.length ≤ sizeLine
    · exact z
    · rw [if_neg z] at hz; cases hz
  let rest : List D → Nat → Mo R.M (List D) := fun acc i => Mo.bnd (cLoop T tt a (wipeD ρ vs) (ds.drop i)) fun ys => Mo.ret (acc ++ ys)
  let Goal : List D → R.M → Hp → Hp → Prop := fun ds _ F' H' => ∀ p us, H' p = none → RepL X.K F' us ds → Q (.ref p) (upd H' p (.lst us))
  let Wi : Nat → Hp → Prop := fun i H => ∃ (m2 : R.M) (F2 : Hp) (acc : List D) (vacc : List V), Same F1 F2 ∧ H B = some (.lst vacc) ∧ Wf R m2 F2 (hide H B) ∧ RepL X.K F2 vacc acc ∧ acc.length ≤ i ∧
    Post R X.K W σ m2 F2 (hide H B) (rest acc i m2) Goal
  refine ⟨fun i n H => i + n = ds.length ∧ Wi i H, ⟨ds.length, Nat.zero_add _, m1, F1, [], [], Same.refl _, upd_same, ?_, .nil, Nat.zero_le _, ?_⟩, ?_⟩
  · rw [hide_upd, hide_none hB]; exact s1.wf
  · rw [hide_upd, hide_none hB]
    have e0 : rest [] 0 = cLoop T tt a (wipeD ρ vs) ds := by
      funext m
      show Mo.bnd (cLoop T tt a (wipeD ρ vs) (ds.drop 0)) (fun ys => Mo.ret ([] ++ ys)) m = _
      rw [List.drop_zero]
      unfold Mo.bnd
      cases cLoop T tt a (wipeD ρ vs) ds m <;> rfl
    rw [e0]
    exact p2
  · rintro i n H ⟨hn, m2, F2, acc, vacc, up, eB, w2, racc, hacc, p3⟩
    have w2' := w2.show.1
    have hat := hJ.at_ up w2' i
    by_cases hl : i < ds.length
    · obtain ⟨d, hd⟩ : ∃ d, ds[i]? = some d := ⟨ds[i], List.getElem?_eq_getElem hl⟩
      obtain ⟨hgo, hy⟩ := hat.2 d hd
      have hdrop : ds.drop i = d :: ds.drop (i + 1) := by
        rw [List.drop_eq_getElem_cons hl]
        congr 1
        rw [List.getElem?_eq_getElem hl] at hd
        exact Option.some.inj hd
      refine .inr ⟨hgo, Wi (i + 1), fun H' z => ⟨n - 1, by omega, by omega, z⟩, fun x H3 y => ?_⟩
      obtain ⟨F3, s3, r3⟩ := hy x H3 y
      obtain ⟨s3h, nB, nB3⟩ := s3.hid w2 eB
      have eB3 : H3 B = some (.lst vacc) := s3.keep B _ eB nB (fun _ z => nomatch z)
      have p4 : Post R X.K W σ m2 F2 (hide H B) (Mo.bnd (Mo.opt (bindT T d (wipeD ρ vs))) (fun ρ1 => Mo.bnd (nox (tt ρ1)) fun k => if k = true then Mo.bnd (nox (a ρ1)) fun y => rest (acc ++ [y]) (i + 1) else rest acc (i + 1)) m2) Goal := by
        have e : rest acc i = Mo.bnd (Mo.opt (bindT T d (wipeD ρ vs))) (fun ρ1 => Mo.bnd (nox (tt ρ1)) fun k => if k = true then Mo.bnd (nox (a ρ1)) fun y => rest (acc ++ [y]) (i + 1) else rest acc (i + 1)) := by
          show Mo.bnd (cLoop T tt a (wipeD ρ vs) (ds.drop i)) _ = _
          rw [hdrop]
          show Mo.bnd (Mo.bnd (Mo.opt (bindT T d (wipeD ρ vs))) _) _ = _
          rw [bnd_assoc]
          congr 1
          funext ρ1
          rw [bnd_assoc]
          congr 1
          funext k
          cases k with
          | false => rfl
          | true =>
            show Mo.bnd (Mo.bnd (nox (a ρ1)) _) _ = Mo.bnd (nox (a ρ1)) _
            rw [bnd_assoc]
            congr 1
            funext y
            rw [bnd_assoc]
            show Mo.bnd (cLoop T tt a (wipeD ρ vs) (ds.drop (i + 1))) (fun ys => Mo.ret (acc ++ (y :: ys))) = Mo.bnd (cLoop T tt a (wipeD ρ vs) (ds.drop (i + 1))) (fun ys => Mo.ret (acc ++ [y] ++ ys))
            congr 1
            funext ys
            rw [List.append_assoc]
            rfl
        rw [← e]
        exact p3
      obtain ⟨ρ1, e1, p5⟩ := Post.opt s3h.wf (p4.from s3h).split
      have erw : EnvR X.K F3 (L2.wipe σ vs) (wipeD ρ vs) := ((er.up s1.up).up (up.trans s3.up)).wipe vs
      refine ⟨m2, F3, wipeD ρ vs, d, ρ1, s3.wf, erw, r3, e1, fun σ1 er1 but => ⟨?_, ?_⟩⟩
      · have := (but.mono hT).wipe
        rw [this, wipe_wipe]
      · refine ⟨m2, F3, ρ1, s3.wf, er1, Post.nox p5.split fun k m4 q4 F4 H4 s4 => ?_⟩
        obtain ⟨s4h, _, nB4⟩ := s4.hid s3h.wf eB3
        have eB4 : H4 B = some (.lst vacc) := s4.keep B _ eB3 nB3 (fun _ z => nomatch z)
        have p6 := q4 _ _ s4h
        cases k with
        | false =>
          refine iteF (A := _) (B := Wi (i + 1) H4) ?_
          exact ⟨m4, F4, acc, vacc, up.trans (s3.up.trans s4.up), eB4, s4h.wf, racc.up (s3.up.trans s4.up), Nat.le_succ_of_le hacc, p6⟩
        | true =>
          refine iteT (A := tD R X.K noW a σ1 H4 fun y H4 => ∃ acc, H4 B = some (HO.lst acc) ∧ acc.length < sizeLine ∧ Wi (i + 1) (upd H4 B (HO.lst (acc ++ [y])))) (B := Wi (i + 1) H4) ?_
          refine ⟨m4, F4, ρ1, s4.wf, er1.up s4.up, Post.nox p6.split fun y m5 q5 F5 H5 s5 v rv => ?_⟩
          obtain ⟨s5h, _, _⟩ := s5.hid s4h.wf eB4
          have eB5 : H5 B = some (.lst vacc) := s5.keep B _ eB4 nB4 (fun _ z => nomatch z)
          have p7 := q5 _ _ s5h
          refine ⟨vacc, eB5, ?_, m5, F5, acc ++ [y], vacc ++ [v], up.trans (s3.up.trans (s4.up.trans s5.up)), upd_same, ?_, (racc.up (s3.up.trans (s4.up.trans s5.up))).append (.cons rv .nil), ?_, ?_⟩
          · rw [racc.length]
            exact Nat.lt_of_le_of_lt hacc (Nat.lt_of_lt_of_le hl hz)
          · rw [hide_upd]; exact s5h.wf
          · rw [List.length_append, List.length_singleton]; omega
          · rw [hide_upd]; exact p7
    · have hd : ds.drop i = [] := List.drop_eq_nil_of_le (by omega)
      refine .inl ⟨hat.1 (by omega), ?_⟩
      have p8 : Post R X.K W σ m2 F2 (hide H B) (Mo.ret acc m2) Goal := by
        have e : rest acc i m2 = Mo.ret acc m2 := by
          show Mo.bnd (cLoop T tt a (wipeD ρ vs) (ds.drop i)) _ m2 = _
          rw [hd]
          show Mo.ret (acc ++ []) m2 = _
          rw [List.append_nil]
        rw [← e]
        exact p3
      have := Post.ret w2 p8 B vacc hide_same racc
      rw [upd_hide eB] at this
      exact this
theorem blk_takes {s : Shared} {H : Hp} {scope : Scope} {cenv : Env} {fp : List Addr} : Takes (X.blk s H scope cenv fp) noW := takes_none5
theorem je_lc {elt tg iter : Expr} {ifs : List Expr} {scope : Scope} {T : Tg} {it : DEnv → Mo R.M (List D)} {tt : DEnv → Mo R.M Bool} {a : DEnv → Mo R.M D} (own : List (Str × Nat)) (hc : X.calm = true) (hN : X.N.Nodup) (hT : SubB T.slots (own.map (·.2)))
    (hi : JI R X W tg iter it) (ok : BlkOk X.N X.env.scope scope own)
    (hg : ∀ (s : Shared) (H : Hp) (C : Addr) (cl : List (Str × Addr)) (fp : List Addr), JG R (X.blk s H scope (compEnvC scope cl C X.env) fp) tg T)
    (ht : ∀ (s : Shared) (H : Hp) (C : Addr) (cl : List (Str × Addr)) (fp : List Addr), JTs R (X.blk s H scope (compEnvC scope cl C X.env) fp) noW ifs tt)
    (he : ∀ (s : Shared) (H : Hp) (C : Addr) (cl : List (Str × Addr)) (fp : List Addr), JE R (X.blk s H scope (compEnvC scope cl C X.env) fp) noW elt a) (hs : ∀ x, foldedSetIterable iter X.env x = pure x := by intro _; rfl) :
    JE R X W (.ListComp elt [⟨tg, iter, ifs, 0⟩] scope pos) (dLc T (own.map (·.2)) it tt a) := wkE (pe_lc hc hN hi ok hg ht he hs) fun _ _ _ h => lc_weak hT (dLc_tN h)
theorem js_setLc {i : Nat} {y : Str} {py : Pos} {elt tg iter : Expr} {ifs : List Expr} {scope : Scope} {spos : Pos} {T : Tg} {it : DEnv → Mo R.M (List D)} {tt : DEnv → Mo R.M Bool} {a : DEnv → Mo R.M D} (own : List (Str × Nat)) (hc : X.calm = true) (hN : X.N.Nodup) (hT : SubB T.slots (own.map (·.2)))
    (hi : JI R X W tg iter it) (ok : BlkOk X.N X.env.scope scope own)
    (hg : ∀ (s : Shared) (H : Hp) (C : Addr) (cl : List (Str × Addr)) (fp : List Addr), JG R (X.blk s H scope (compEnvC scope cl C X.env) fp) tg T)
    (ht : ∀ (s : Shared) (H : Hp) (C : Addr) (cl : List (Str × Addr)) (fp : List Addr), JTs R (X.blk s H scope (compEnvC scope cl C X.env) fp) noW ifs tt)
    (he : ∀ (s : Shared) (H : Hp) (C : Addr) (cl : List (Str × Addr)) (fp : List Addr), JE R (X.blk s H scope (compEnvC scope cl C X.env) fp) noW elt a)
    (hsw : swapsWith (.ListComp elt [⟨tg, iter, ifs, 0⟩] scope pos) (some (.Name y py)) spos.line X.env = pure true) (hy : X.N[i]? = some y := by rfl) (hyl : X.env.scope.names.lookup y = some .local := by rfl) (hs : ∀ x, foldedSetIterable iter X.env x = pure x := by intro _; rfl) :
    JS R X W (.Assign [.Name y py] (.ListComp elt [⟨tg, iter, ifs, 0⟩] scope pos) spos) (sAsg (.one i) (dLc T (own.map (·.2)) it tt a)) := by
  refine wkS (ps_setLc (wi := tI R X.K W it) (g := tG R X.K T) (tt := tB R X.K noW tt) (te := tD R X.K noW a) hc hN hy hyl hsw hi ok hg ht he hs) fun E σ H h => ?_
  obtain ⟨m, F, ρ, w, er, p⟩ := h
  refine lc_weak (Q := fun x H1 => gName i x σ H1 E.nx) hT <| dLc_tN ⟨m, F, ρ, w, er, p.split.mono fun d m1 F1 H1 s1 p1 v rv => ?_⟩
  obtain ⟨ρ', e1, p2⟩ := Post.opt s1.wf p1.split
  cases e1
  exact Post.ret s1.wf p2 _ ((er.up s1.up).set i rv)
end

/-! ### a def by its body -/
theorem startD_rep {K : PySem.W.Frag} {F : Hp} {N : List Str} {vs : List V} {ds : List D} (r : RepL K F vs ds) : EnvR K F (L2.start N vs) (startD N ds) := by
  unfold L2.start startD
  rw [r.length]
  have key : ∀ {vs : List V} {ds : List D} (n : Nat), RepL K F vs ds → EnvR K F (vs.map some ++ List.replicate n none) (ds.map some ++ List.replicate n none) := by
    intro vs
    induction vs with
    | nil =>
      intro ds n r
      cases r
      refine ⟨by simp, fun i d h => ?_⟩
      simp only [List.map_nil, List.nil_append, List.getElem?_replicate] at h
      split at h <;> cases h
    | cons v vs ih =>
      intro ds n r
      cases r with
      | cons r1 r2 =>
        obtain ⟨h1, h2⟩ := ih n r2
        refine ⟨by simpa using h1, fun i d h => ?_⟩
        cases i with
        | zero =>
          cases h
          exact ⟨v, rfl, r1⟩
        | succ i => exact h2 i d h
  exact key _ r
section
variable {R : Res} {P : Program} {w : World} {K : PySem.W.Frag} {mg : Str → Option Value} {base : Heap}
abbrev WofE (E : XK) : WX := fun cls d _ H => E cls d H
theorem fun_okG {x qual : Str} {st : Stmt} {f : Addr} {fd : FuncData} {N ps : List Str} {k : Nat} {fb : DEnv → Mo R.M Fl} (F : Fun K x qual st f fd) (S : FnScope N ps (defScope st))
    (hbody : ∀ (cdv : Value) (A : Around) (outer : List Env) (s : Shared) (H : Hp) (E : XK), Room k (A.deeper (envOfC qual (defScope st) s.heap.objs.size f cdv)) → A.guards = some [] →
      Takes (cxOf (L2.CX P w) P w K mg base N qual (defScope st) f cdv A outer s H E) (WofE E) → PassesOwn (model P w) (cxOf (L2.CX P w) P w K mg base N qual (defScope st) f cdv A outer s H E).A (cxOf (L2.CX P w) P w K mg base N qual (defScope st) f cdv A outer s H E).env (cxOf (L2.CX P w) P w K mg base N qual (defScope st) f cdv A outer s H E).xe →
      JSs R (cxOf (L2.CX P w) P w K mg base N qual (defScope st) f cdv A outer s H E) (WofE E) (defBody st) fb) :
    FnG P w K mg base (k + 1) f fd ps (spD R K ps.length fun ds => fin (fb (startD N ds))) := by
  obtain ⟨oc, od, kV, doc, pm, an, cdv, ct, osl, rfl, lk, hcd⟩ := F.ex
  refine ⟨fun vs H Q E h => h.1, fun A outer s H args us vs Q E hr hg e0 hb r hsp => ?_⟩
  refine LamX.run_ofS lk hcd S hr e0 hb r hsp.1 fun hr' => ⟨_, hbody cdv A outer s H E hr' hg (takes_of rfl rfl rfl rfl) (passes_of rfl), ?_⟩
  obtain ⟨_, m, F0, ds, wf, rr, p⟩ := hsp
  refine ⟨m, F0, startD N ds, wf, startD_rep rr, (Post.env (fun _ _ _ _ _ h => h) p).split.mono fun fl m1 F1 H1 s1 p1 => ?_⟩
  cases fl with
  | next ρ' => exact fun σ' e' => Post.ret s1.wf p1 _ .non
  | ret d => exact Post.ret s1.wf p1
  | brk ρ' => exact p1.elim
  | cont ρ' => exact p1.elim
end
end DE

/-! DE6: len, isinstance, int, min, max, list, tuple, repr; exceptions as values. -/
namespace DE
open PySem PySem.Spec PyProof.Rows L2
section
variable {R : Res} {X : Cx} {W : WX}
theorem repL1 {K : PySem.W.Frag} {F : Hp} {vs : List V} {d : D} (r : RepL K F vs [d]) : ∃ v, vs = [v] ∧ Rep K F v d := by
  cases r with
  | cons r1 r2 => cases r2; exact ⟨_, rfl, r1⟩
theorem repL2 {K : PySem.W.Frag} {F : Hp} {vs : List V} {d e : D} (r : RepL K F vs [d, e]) : ∃ v u, vs = [v, u] ∧ Rep K F v d ∧ Rep K F u e := by
  cases r with
  | cons r1 r2 =>
    obtain ⟨u, rfl, r3⟩ := repL1 r2
    exact ⟨_, _, rfl, r1, r3⟩
theorem je_tyn {x : Str} {n : String} {pos : Pos} (hm : X.mg x = none) (hv : bootBuiltins x = some (.type n)) (hg : Gl X x := by rfl) (hn : x ≠ "__name__" := by decide) (hd : (x == ("__debug__" : Str)) = false := by decide) : JE R X W (.Name x pos) (dC (.ty n)) :=
  je_const (pe_bltn hg hm hv (v := .ty n) rfl hn hd) fun _ => .ty n
theorem je_cls {x : Str} {C : Addr} {pos : Pos} (hm : X.mg x = some (.ref C)) (hg : Gl X x := by rfl) (hd : (x == ("__debug__" : Str)) = false := by decide) : JE R X W (.Name x pos) (dC (.cls C)) :=
  je_glob (v := .ref C) hm rfl (fun _ => .cls C) hg hd
/-! ### len -/
def lenF : List D → Option D
  | [.tup xs] => some (.int xs.length)
  | [.lst xs] => some (.int xs.length)
  | [.scr xs] => some (.int xs.length)
  | [.str z] => if z.length ≤ sizeLine then some (.int z.length) else none
  | _ => none
theorem callD_len : CallD R X (.builtin "len") lenF := by
  intro pins s σ H xs us Q I r h
  obtain ⟨m, F, ds, d, w, rr, e, q⟩ := h
  have here := fun (v : V) (r : Rep X.K F v d) => q F H v (Stp.refl w) r
  match ds, rr, e with
  | [.tup ys], rr, e =>
    obtain ⟨v, rfl, r1⟩ := repL1 rr
    obtain ⟨a, zs, rfl, t, l⟩ := rep_tup r1
    cases e
    exact call_len_seq pins s σ H _ us Q I r ⟨a, zs, rfl, .inr (t.sq w.sub), by rw [l.length]; exact here _ (.int _)⟩
  | [.lst ys], rr, e =>
    obtain ⟨v, rfl, r1⟩ := repL1 rr
    obtain ⟨a, zs, rfl, t, l⟩ := rep_lst r1
    cases e
    exact call_len_seq pins s σ H _ us Q I r ⟨a, zs, rfl, .inl (SqL.of (w.sub _ _ t)), by rw [l.length]; exact here _ (.int _)⟩
  | [.scr ys], rr, e =>
    obtain ⟨v, rfl, r1⟩ := repL1 rr
    cases r1 with
    | scr t =>
      cases e
      exact call_len_seq pins s σ H _ us Q I r ⟨_, _, rfl, .inl (SqL.up w.sub t), by rw [List.length_map]; exact here _ (.int _)⟩
  | [.str z], rr, e =>
    obtain ⟨v, rfl, r1⟩ := repL1 rr
    have := rep_str r1
    subst this
    unfold lenF at e
    dsimp only at e
    split at e
    · rename_i hz
      cases e
      obtain ⟨u, rfl, ru⟩ := vals1 r
      exact call_len pins s σ H _ _ Q I r ⟨_, _, rfl, ⟨hz, rfl⟩, here _ (.int _)⟩
    · cases e
/-! ### int, min, max -/
def intF : List D → Option D
  | [.int i] => some (.int i)
  | [.bl k] => some (.int (if k then 1 else 0))
  | _ => none
theorem callD_int : CallD R X (.type "int") intF := by
  intro pins s σ H xs us Q I r h
  obtain ⟨m, F, ds, d, w, rr, e, q⟩ := h
  have here := fun (v : V) (r : Rep X.K F v d) => q F H v (Stp.refl w) r
  match ds, rr, e with
  | [.int i], rr, e =>
    obtain ⟨v, rfl, r1⟩ := repL1 rr
    have := rep_int r1
    subst this
    cases e
    exact call_int1 pins s σ H _ us Q I r (.inl ⟨i, rfl, here _ (.int _)⟩)
  | [.bl k], rr, e =>
    obtain ⟨v, rfl, r1⟩ := repL1 rr
    have := rep_bl r1
    subst this
    cases e
    exact call_int1 pins s σ H _ us Q I r (.inr ⟨k, rfl, here _ (.int _)⟩)
def minF : List D → Option D
  | [.int i, .int j] => some (.int (if j < i then j else i))
  | _ => none
def maxF : List D → Option D
  | [.int i, .int j] => some (.int (if j > i then j else i))
  | _ => none
theorem callD_min (hc : X.calm = true) : CallD R X (.builtin "min") minF := by
  intro pins s σ H xs us Q I r h
  obtain ⟨m, F, ds, d, w, rr, e, q⟩ := h
  match ds, rr, e with
  | [.int i, .int j], rr, e =>
    obtain ⟨v, u, rfl, r1, r2⟩ := repL2 rr
    have := rep_int r1
    subst this
    have := rep_int r2
    subst this
    cases e
    exact call_min2 hc pins s σ H _ us Q I r ⟨i, j, rfl, q F H _ (Stp.refl w) (.int _)⟩
theorem callD_max (hc : X.calm = true) : CallD R X (.builtin "max") maxF := by
  intro pins s σ H xs us Q I r h
  obtain ⟨m, F, ds, d, w, rr, e, q⟩ := h
  match ds, rr, e with
  | [.int i, .int j], rr, e =>
    obtain ⟨v, u, rfl, r1, r2⟩ := repL2 rr
    have := rep_int r1
    subst this
    have := rep_int r2
    subst this
    cases e
    exact call_max2 hc pins s σ H _ us Q I r ⟨i, j, rfl, q F H _ (Stp.refl w) (.int _)⟩
/-! ### list, tuple -/
def listF : List D → Option D
  | [.tup xs] => some (.lst xs)
  | [.lst xs] => some (.lst xs)
  | [.scr ns] => some (.lst (ns.map .int))
  | _ => none
theorem callD_list : CallD R X (.type "list") listF := by
  intro pins s σ H xs us Q I r h
  obtain ⟨m, F, ds, d, w, rr, e, q⟩ := h
  match ds, rr, e with
  | [.tup ys], rr, e =>
    obtain ⟨v, rfl, r1⟩ := repL1 rr
    obtain ⟨a, zs, rfl, t, l⟩ := rep_tup r1
    cases e
    refine call_list_of pins s σ H _ us Q I r ⟨a, zs, rfl, .inr (t.sq w.sub), fun p hp => ?_⟩
    have st := Stp.new w hp (o := .lst zs) (fun _ z => nomatch z)
    exact q _ _ _ st (.lst upd_same (l.up st.up))
  | [.lst ys], rr, e =>
    obtain ⟨v, rfl, r1⟩ := repL1 rr
    obtain ⟨a, zs, rfl, t, l⟩ := rep_lst r1
    cases e
    refine call_list_of pins s σ H _ us Q I r ⟨a, zs, rfl, .inl (SqL.of (w.sub _ _ t)), fun p hp => ?_⟩
    have st := Stp.new w hp (o := .lst zs) (fun _ z => nomatch z)
    exact q _ _ _ st (.lst upd_same (l.up st.up))
  | [.scr ns], rr, e =>
    obtain ⟨v, rfl, r1⟩ := repL1 rr
    cases r1 with
    | scr t =>
      cases e
      refine call_list_of pins s σ H _ us Q I r ⟨_, _, rfl, .inl (SqL.up w.sub t), fun p hp => ?_⟩
      have st := Stp.new w hp (o := .lst (ns.map V.int)) (fun _ z => nomatch z)
      exact q _ _ _ st (.lst upd_same (RepL.ints ns))
def tupleF : List D → Option D
  | [.tup xs] => some (.tup xs)
  | [.lst xs] => some (.tup xs)
  | _ => none
theorem callD_tuple : CallD R X (.type "tuple") tupleF := by
  intro pins s σ H xs us Q I r h
  obtain ⟨m, F, ds, d, w, rr, e, q⟩ := h
  match ds, rr, e with
  | [.tup ys], rr, e =>
    obtain ⟨v, rfl, r1⟩ := repL1 rr
    obtain ⟨a, zs, rfl, t, l⟩ := rep_tup r1
    cases e
    exact call_tuple_of pins s σ H _ us Q I r ⟨a, zs, rfl, .inr ⟨t.sq w.sub, q F H _ (Stp.refl w) (.tup t l)⟩⟩
  | [.lst ys], rr, e =>
    obtain ⟨v, rfl, r1⟩ := repL1 rr
    obtain ⟨a, zs, rfl, t, l⟩ := rep_lst r1
    cases e
    refine call_tuple_of pins s σ H _ us Q I r ⟨a, zs, rfl, .inl ⟨SqL.of (w.sub _ _ t), fun p hp => ?_⟩⟩
    have st := Stp.new w hp (o := .tup zs) (fun _ z => nomatch z)
    exact q _ _ _ st (.tup (.inl upd_same) (l.up st.up))
/-! ### x[i] -/
def ixF : D → D → Option D
  | .tup xs, .int i => atI xs i
  | .lst xs, .int i => atI xs i
  | .scr xs, .int i => (atI xs i).map .int
  | .str z, .int i => if z.length ≤ sizeLine then (atI z.cps.toList i).map fun c => .str ⟨#[c]⟩ else none
  | _, _ => none
theorem atI_map {α β : Type} (f : α → β) (xs : List α) (i : Int) : atI (xs.map f) i = (atI xs i).map f := by
  unfold atI
  rw [List.length_map]
  cases ixN xs.length i with
  | none => rfl
  | some j => simp
theorem RepL.atI {K : PySem.W.Frag} {F : Hp} {vs : List V} {ds : List D} {i : Int} {d : D} (r : RepL K F vs ds) (h : atI ds i = some d) : ∃ v, L2.atI vs i = some v ∧ Rep K F v d := by
  unfold L2.atI at h ⊢
  rw [r.length]
  cases e : ixN ds.length i with
  | none => rw [e] at h; cases h
  | some j =>
    rw [e] at h
    exact r.getD h
theorem ixd : IxR X (rD R X.K ixF) := by
  intro value slice pins s σ H x y v u Q I rx ry h hs
  obtain ⟨m, F, dx, dy, d, w, r1, r2, e, q⟩ := h
  have here := fun (v : V) (r : Rep X.K F v d) => q F H v (Stp.refl w) r
  cases dy with
  | int i =>
    have := rep_int r2
    subst this
    cases dx with
    | tup ds =>
      obtain ⟨a, xs, rfl, t, l⟩ := rep_tup r1
      obtain ⟨z, hz, rz⟩ := l.atI e
      exact ix_tup value slice pins s σ H _ _ v u Q I rx ry ⟨a, xs, i, z, rfl, rfl, t.sq w.sub, hz, here z rz⟩ hs
    | lst ds =>
      obtain ⟨a, xs, rfl, t, l⟩ := rep_lst r1
      obtain ⟨z, hz, rz⟩ := l.atI e
      exact ix_list value slice pins s σ H _ _ v u Q I rx ry ⟨a, xs, i, z, rfl, rfl, SqL.of (w.sub _ _ t), hz, here z rz⟩ hs
    | scr ns =>
      cases r1 with
      | scr t =>
        unfold ixF at e
        dsimp only at e
        cases hz : L2.atI ns i with
        | none => rw [hz] at e; cases e
        | some n =>
          rw [hz] at e
          cases e
          exact ix_list value slice pins s σ H _ _ v u Q I rx ry ⟨_, _, i, .int n, rfl, rfl, SqL.up w.sub t, by rw [atI_map, hz]; rfl, here _ (.int n)⟩ hs
    | str z =>
      have := rep_str r1
      subst this
      unfold ixF at e
      dsimp only at e
      split at e
      · rename_i hl
        cases hz : L2.atI z.cps.toList i with
        | none => rw [hz] at e; cases e
        | some c =>
          rw [hz] at e
          cases e
          exact ix_str value slice pins s σ H _ _ v u Q I rx ry ⟨z, i, c, rfl, rfl, hl, hz, here _ (.str _)⟩ hs
      · cases e
    | _ => cases e
  | _ => cases dx <;> cases e
/-! ### isinstance -/
structure OwnC (K : PySem.W.Frag) (C : Addr) : Prop where
  cl : Cls K C
  ha : PySem.W.findIn K (.ref C) "__class__" = some (some (.builtin "object.__class__"))
  hn : PySem.W.specialIn K (.builtin "object.__class__") "__get__" = some (some (.builtin "getset_descriptor.__get__"))
  ht : PySem.W.takesIn K (.builtin "object.__class__") = some true
  hm : PySem.W.mroIn K C (.type "object") = some true
structure ExcX (K : PySem.W.Frag) (C : Addr) : Prop where
  hga : PySem.W.findIn K (.ref C) "__getattribute__" = some (some (.builtin "BaseException.__getattribute__"))
  hgt : PySem.W.findIn K (.ref C) "__getattr__" = some none
  hs : PySem.W.subIn K (.ref C) (.type "BaseException") = some true
  hd : PySem.W.hasDictIn K C = true
  ha : PySem.W.findIn K (.ref C) "__class__" = some (some (.builtin "object.__class__"))
  hn : PySem.W.specialIn K (.builtin "object.__class__") "__get__" = some (some (.builtin "getset_descriptor.__get__"))
  ht : PySem.W.takesIn K (.builtin "object.__class__") = some true
  hm : PySem.W.mroIn K C (.type "object") = some true
def tyN (ocs ecs : List Addr) : D → Option Value
  | .non => some (.type "NoneType")
  | .bl _ => some (.type "bool")
  | .int _ => some (.type "int")
  | .str _ => some (.type "str")
  | .tup _ => some (.type "tuple")
  | .lst _ => some (.type "list")
  | .dic0 => some (.type "dict")
  | .obj C _ => if C ∈ ocs then some (.ref C) else none
  | .exo C _ _ => if C ∈ ecs then some (.ref C) else none
  | _ => none
def clsV : D → Option Value
  | .ty n => some (.type n)
  | .cls C => some (.ref C)
  | _ => none
def clsVs : List D → Option (List Value)
  | [] => some []
  | d :: ds => match clsV d, clsVs ds with
    | some u, some us => some (u :: us)
    | _, _ => none
def isiF (K : PySem.W.Frag) (ocs ecs : List Addr) : List D → Option D
  | [x, .tup cs] => (tyN ocs ecs x).bind fun t => (clsVs cs).bind fun us => (PySem.W.kitAny K t us).map .bl
  | [x, c] => (tyN ocs ecs x).bind fun t => (clsV c).bind fun u => (PySem.W.kitOne K t u).map .bl
  | _ => none
theorem inst_exo {pins : List (Addr × Obj)} {σ : L2.St} {H : Hp} {s : Shared} {a C dd : Addr} {fs : List (Str × V)} (I : Inv X pins σ H s) (h1 : H a = some (L2.exo a C (some dd))) (h2 : H dd = some (L2.exd dd fs)) :
    ∃ (ox od : Obj) (mA : Str → Option Value), PySem.W.InstAt s.heap a ox C (some od) ∧ (∀ f, RelO (fs.lookup f) (mA f)) ∧ ∀ n, PySem.W.lookIn n od = some (mA n) := by
  obtain ⟨t1, e1⟩ := exo_at I.hok h1
  obtain ⟨mA, hns, rel⟩ := exd_at I.hok h2
  obtain ⟨od, ho, hl⟩ := lookIn_ns hns
  exact ⟨_, od, mA, ⟨e1, rfl, rfl, ho⟩, rel, hl⟩
theorem kit_rep {ocs ecs : List Addr} {pins : List (Addr × Obj)} {σ : L2.St} {F H : Hp} {s : Shared} {v : V} {u t : Value} {d : D} (ho : ∀ C ∈ ocs, OwnC X.K C) (he : ∀ C ∈ ecs, ExcX X.K C) (I : Inv X pins σ H s) (sub : Same F H) (r : Rep X.K F v d) (rv : RelV v u) (ht : tyN ocs ecs d = some t) :
    ∃ P : Heap → Prop, PySem.W.KitX X.K u t P ∧ P s.heap ∧ u ≠ .builtin "__main__.__loader__#opaque" := by
  cases r with
  | non => cases ht; exact kit_of I rv (.base .non)
  | bl b => cases ht; exact kit_of I rv (.base (.bl b))
  | int i => cases ht; exact kit_of I rv (.base (.int i))
  | str x => cases ht; exact kit_of I rv (.base (.str x))
  | tup t l =>
    cases ht
    rcases t with t | ⟨o, its, n, h1, h2, _⟩
    · exact kit_of I rv (.base (.tup (sub _ _ t)))
    · exact kit_of I rv (.kTuple h1 h2)
  | lst t l => cases ht; exact kit_of I rv (.base (.lst (sub _ _ t)))
  | dic0 e => cases ht; exact kit_of I rv (.base (.dK (sub _ _ e)))
  | @obj a C dx vs fs e l =>
    unfold tyN at ht
    dsimp only at ht
    split at ht
    · rename_i hC
      cases ht
      have o := ho C hC
      exact kit_of I rv (.base (.ins (sub _ _ e) o.cl o.ha o.hn o.ht o.hm))
    · cases ht
  | @exo a C dd f w d e1 e2 r1 =>
    unfold tyN at ht
    dsimp only at ht
    split at ht
    · rename_i hC
      cases ht
      have o := he C hC
      obtain ⟨ox, od, mA, J, _⟩ := inst_exo I (sub _ _ e1) (sub _ _ e2)
      obtain rfl : u = Value.ref a := rv
      obtain ⟨cd, hcd, _⟩ := PySem.W.any_some o.hd
      exact ⟨_, PySem.W.kitx_exc (gt := none) (ox := ox) (od := some od) (by rw [hcd]; rfl) o.hga o.hgt o.hs o.ha o.hn o.ht o.hm, J, fun z => nomatch z⟩
    · cases ht
  | _ => cases ht
theorem clsV_rep {K : PySem.W.Frag} {F : Hp} {v : V} {d : D} {t : Value} (r : Rep K F v d) (h : clsV d = some t) : ClsV v t := by
  cases r with
  | ty n => cases h; exact .ty n
  | cls C => cases h; exact .own C
  | _ => cases h
theorem clsVs_rep {K : PySem.W.Frag} {F : Hp} : ∀ {ds : List D} {vs : List V} {ts : List Value}, RepL K F vs ds → clsVs ds = some ts → Paired ClsV vs ts
  | [], _, _, r, h => by cases r; cases h; exact .nil
  | d :: ds, _, _, r, h => by
    cases r with
    | cons r1 r2 =>
      unfold clsVs at h
      cases e1 : clsV d with
      | none => rw [e1] at h; cases h
      | some u =>
        cases e2 : clsVs ds with
        | none => rw [e1, e2] at h; cases h
        | some us =>
          rw [e1, e2] at h
          cases h
          exact .cons (clsV_rep r1 e1) (clsVs_rep r2 e2)
theorem map_some {α β : Type} {f : α → β} {o : Option α} {b : β} (h : o.map f = some b) : ∃ a, o = some a ∧ b = f a := by
  cases o with
  | none => cases h
  | some a => cases h; exact ⟨a, rfl, rfl⟩
theorem bind_some {α β : Type} {f : α → Option β} {o : Option α} {b : β} (h : o.bind f = some b) : ∃ a, o = some a ∧ f a = some b := by
  cases o with
  | none => cases h
  | some a => exact ⟨a, rfl, h⟩
theorem callD_isi {ocs ecs : List Addr} (ho : ∀ C ∈ ocs, OwnC X.K C) (he : ∀ C ∈ ecs, ExcX X.K C) : CallD R X (.builtin "isinstance") (isiF X.K ocs ecs) := by
  intro pins s σ H xs us Q I r h
  obtain ⟨m, F, ds, d, w, rr, e, q⟩ := h
  have one : ∀ {x c : D} {k : Bool}, ds = [x, c] → d = .bl k → ((tyN ocs ecs x).bind fun t => (clsV c).bind fun u => (PySem.W.kitOne X.K t u).map D.bl) = some (.bl k) → wpAny (model X.prog X.w) X.A (call (.builtin "isinstance") us) (EP X pins σ Q) X.xe s := by
    intro x c k e1 e2 e3
    subst e1 e2
    obtain ⟨v, u, rfl, r1, r2⟩ := repL2 rr
    obtain ⟨t, ht, e3⟩ := bind_some e3
    obtain ⟨u', hu, e3⟩ := bind_some e3
    obtain ⟨b, hb, e4⟩ := map_some e3
    cases e4
    obtain ⟨w1, w2, rfl, rv1, rv2⟩ := vals2 r
    obtain ⟨P, Z, p, hx⟩ := kit_rep ho he I w.sub r1 rv1 ht
    have ec := (clsV_rep r2 hu).eq rv2
    subst ec
    exact PySem.W.kia_one Z I.kIn p hb hx fun tk => ⟨.bl k, H, I.tok tk, rfl, q F H _ (Stp.refl w) (.bl _)⟩
  have isb : ∃ k, d = .bl k := by
    match ds, e with
    | [x, .tup cs], e =>
      obtain ⟨t, ht, e3⟩ := bind_some e
      obtain ⟨u', hu, e3⟩ := bind_some e3
      obtain ⟨b, hb, e4⟩ := map_some e3
      exact ⟨b, e4⟩
    | [x, .ty c], e | [x, .cls c], e =>
      obtain ⟨t, ht, e3⟩ := bind_some e
      obtain ⟨u', hu, e3⟩ := bind_some e3
      obtain ⟨b, hb, e4⟩ := map_some e3
      exact ⟨b, e4⟩
    | [x, .non], e | [x, .bl _], e | [x, .int _], e | [x, .str _], e | [x, .lst _], e | [x, .dic0], e | [x, .scr _], e | [x, .obj _ _], e | [x, .hdl _], e | [x, .exo _ _ _], e =>
      obtain ⟨t, ht, e3⟩ := bind_some e
      obtain ⟨u', hu, e3⟩ := bind_some e3
      cases hu
  obtain ⟨k, ek⟩ := isb
  subst ek
  match ds, rr, e with
  | [x, .tup cs], rr, e =>
    obtain ⟨v, u, rfl, r1, r2⟩ := repL2 rr
    obtain ⟨t, ht, e3⟩ := bind_some e
    obtain ⟨ts, hu, e3⟩ := bind_some e3
    obtain ⟨b, hb, e4⟩ := map_some e3
    cases e4
    obtain ⟨tp, ys, rfl, ta, l⟩ := rep_tup r2
    obtain ⟨w1, w2, rfl, rv1, rv2⟩ := vals2 r
    obtain ⟨P, Z, p, hx⟩ := kit_rep ho he I w.sub r1 rv1 ht
    obtain rfl : w2 = Value.ref tp := rv2
    have pc := clsVs_rep l hu
    have fin : ∀ tk, EP X pins σ Q (.bool k) { s with toks := tk } := fun tk => ⟨.bl k, H, I.tok tk, rfl, q F H _ (Stp.refl w) (.bl _)⟩
    rcases ta with ta | ⟨o, its, n, h1, h2, h3, _, h5⟩
    · obtain ⟨_, its, rv, o, h1, h2, n, h3⟩ := (show ObjOk X.prog X.w H s.heap tp (.tup ys) from I.hok tp _ (w.sub _ _ ta))
      have e3 := ClsV.all pc rv
      subst e3
      obtain ⟨oc, od, dt, sl⟩ := o
      simp only at h2 h3
      subst h2 h3
      exact PySem.W.kia_tup Z I.kIn p h1 hb hx fin
    · have e3 := ClsV.all pc h5
      obtain ⟨oc, od, dt, sl⟩ := o
      simp only at h2 h3
      subst h2 h3
      obtain ⟨il⟩ := its
      simp only at e3
      subst e3
      exact PySem.W.kia_tup Z I.kIn p (I.kIn _ _ h1) hb hx fin
  | [x, .ty c], rr, e => exact one rfl rfl e
  | [x, .cls c], rr, e => exact one rfl rfl e
  | [x, .non], rr, e => exact one rfl rfl e
  | [x, .bl _], rr, e => exact one rfl rfl e
  | [x, .int _], rr, e => exact one rfl rfl e
  | [x, .str _], rr, e => exact one rfl rfl e
  | [x, .lst _], rr, e => exact one rfl rfl e
  | [x, .dic0], rr, e => exact one rfl rfl e
  | [x, .scr _], rr, e => exact one rfl rfl e
  | [x, .obj _ _], rr, e => exact one rfl rfl e
  | [x, .hdl _], rr, e => exact one rfl rfl e
  | [x, .exo _ _ _], rr, e => exact one rfl rfl e
end
end DE

/-! DE7: repr; own exceptions (one field, over any built-in base): made as values, read, raised. -/
namespace DE
open PySem PySem.Spec PyProof.Rows L2
/-! ### repr -/
mutual
def toPyR : D → Option PyData
  | .non => some .none
  | .bl b => some (.bool b)
  | .int i => some (.int i)
  | .str x => some (.str x)
  | .tup xs => (toPyRL xs).map .tuple
  | .lst xs => (toPyRL xs).map .list
  | _ => none
def toPyRL : List D → Option (List PyData)
  | [] => some []
  | x :: xs => match toPyR x, toPyRL xs with
    | some a, some b => some (a :: b)
    | _, _ => none
end
section
variable {X : Cx} {pins : List (Addr × Obj)} {σ : L2.St} {F H : Hp} {s : Shared}
mutual
theorem readsR (I : Inv X pins σ H s) (sub : Same F H) : ∀ (d : D) (v : V) (u : Value) (p : PyData), Rep X.K F v d → RelV v u → toPyR d = some p → ∃ as, Reads s.heap u p as ∧ p.hasDict = false
  | .non, _, _, _, r, rv, e => by cases r; cases rv; simp only [toPyR] at e; cases e; exact ⟨_, .none, rfl⟩
  | .bl b, _, _, _, r, rv, e => by cases r; cases rv; simp only [toPyR] at e; cases e; exact ⟨_, .bool b, rfl⟩
  | .int i, _, _, _, r, rv, e => by cases r; obtain ⟨t, rfl⟩ := rv; simp only [toPyR] at e; cases e; exact ⟨_, .int i t, rfl⟩
  | .str i, _, _, _, r, rv, e => by cases r; obtain ⟨t, rfl⟩ := rv; simp only [toPyR] at e; cases e; exact ⟨_, .str i t, rfl⟩
  | .tup ds, _, _, _, r, rv, e => by
    simp only [toPyR] at e
    cases z : toPyRL ds with
    | none => rw [z] at e; cases e
    | some ps =>
      rw [z] at e
      cases e
      obtain ⟨a, xs, rfl, t, l⟩ := rep_tup r
      cases rv
      obtain ⟨its, rvs, ⟨o, ho, hc, n, hd⟩, _⟩ := I.tuple (t.sq sub)
      obtain ⟨as, hr, hn⟩ := readsRL I sub ds _ its ps l rvs z
      exact ⟨as, .tuple ho hc hd (by simpa using hr), hn⟩
  | .lst ds, _, _, _, r, rv, e => by
    simp only [toPyR] at e
    cases z : toPyRL ds with
    | none => rw [z] at e; cases e
    | some ps =>
      rw [z] at e
      cases e
      obtain ⟨a, xs, rfl, t, l⟩ := rep_lst r
      cases rv
      obtain ⟨its, rvs, ⟨o, n, ho, hc, _, hd⟩, _⟩ := I.list (SqL.of (sub _ _ t))
      obtain ⟨as, hr, hn⟩ := readsRL I sub ds _ its ps l rvs z
      exact ⟨_, .list ho hc hd (by simpa using hr), hn⟩
  | .dic0, _, _, _, r, rv, e => by simp [toPyR] at e
  | .ty _, _, _, _, r, rv, e => by simp [toPyR] at e
  | .scr _, _, _, _, r, rv, e => by simp [toPyR] at e
  | .cls _, _, _, _, r, rv, e => by simp [toPyR] at e
  | .obj _ _, _, _, _, r, rv, e => by simp [toPyR] at e
  | .hdl _, _, _, _, r, rv, e => by simp [toPyR] at e
  | .exo _ _ _, _, _, _, r, rv, e => by simp [toPyR] at e
theorem readsRL (I : Inv X pins σ H s) (sub : Same F H) : ∀ (ds : List D) (vs : List V) (us : List Value) (ps : List PyData), RepL X.K F vs ds → Vals vs us → toPyRL ds = some ps → ∃ as, ReadsAll s.heap us ps as ∧ PyData.hasDictAll ps = false
  | [], _, _, _, r, rv, e => by cases r; cases rv; simp only [toPyRL] at e; cases e; exact ⟨_, .nil, rfl⟩
  | d :: ds, _, _, _, r, rv, e => by
    simp only [toPyRL] at e
    cases z : toPyR d with
    | none => rw [z] at e; cases e
    | some a =>
      cases z2 : toPyRL ds with
      | none => rw [z, z2] at e; cases e
      | some b =>
        rw [z, z2] at e
        cases e
        cases r with
        | cons r1 r2 =>
          cases rv with
          | cons q1 q2 =>
            obtain ⟨as, h1, n1⟩ := readsR I sub d _ _ _ r1 q1 z
            obtain ⟨bs, h2, n2⟩ := readsRL I sub ds _ _ _ r2 q2 z2
            exact ⟨_, .cons h1 h2, by simp [PyData.hasDictAll, n1, n2]⟩
end
/-- an empty dict -/
theorem reads0 (I : Inv X pins σ H s) (sub : Same F H) {v : V} {u : Value} (r : Rep X.K F v .dic0) (rv : RelV v u) : ∃ a as, u = .ref a ∧ Reads s.heap u (.dict []) as ∧ sysModules ∉ as := by
  cases r with
  | @dic0 a e =>
    cases rv
    obtain ⟨_, hsm, vs, kv, o, es, ep, ho, hx, hd, _, hes, _⟩ := (show ObjOk X.prog X.w H s.heap a (.dK []) from I.hok a _ (sub _ _ e))
    cases kv
    have e0 : es.toList = [] := by
      generalize es.toList = l at hes
      cases hes
      rfl
    refine ⟨a, _, rfl, .dict (as := []) (bs := []) ho hx.1 hd (by rw [e0]; exact .nil) (by rw [e0]; exact .nil), fun hm => ?_⟩
    have hm : sysModules = a := by simpa using hm
    rw [hm] at hsm
    simp at hsm
end
/-- what repr tells of plain data -/
def reprP (p : PyData) : Option Str := if p.showable = true ∧ p.depth ≤ 60 ∧ p.shown.length ≤ sizeLine then some p.shown else none
def reprF : List D → Option D
  | [.dic0] => some (.str (PyData.dict []).shown)
  | [x] => (toPyR x).bind fun p => (reprP p).map .str
  | _ => none
section
variable {R : Res} {X : Cx} {W : WX}
theorem callD_repr (hu : X.A.units + 64 < cLine) (hg : X.A.guards = some []) : CallD R X (.builtin "repr") reprF := by
  intro pins s σ H xs us Q I r h
  obtain ⟨m, F, ds, d, w, rr, e, q⟩ := h
  have main : ∀ x : D, ds = [x] → ((toPyR x).bind fun p => (reprP p).map D.str) = some d → wpAny (model X.prog X.w) X.A (call (.builtin "repr") us) (EP X pins σ Q) X.xe s := by
    intro x ex e2
    subst ex
    obtain ⟨v, rfl, r1⟩ := repL1 rr
    obtain ⟨u, rfl, rv⟩ := vals1 r
    obtain ⟨p, hp, e2⟩ := bind_some e2
    obtain ⟨t, ht, rfl⟩ := map_some e2
    unfold reprP at ht
    split at ht
    · rename_i hz
      cases ht
      obtain ⟨h1, h2, h3⟩ := hz
      have fin : ∀ h' tk u, (∀ b o, s.heap.get? b = some o → h'.get? b = some o) → EP X pins σ Q (.str p.shown u) { s with heap := h', toks := tk } := fun h' tk u k => ⟨.str p.shown, H, I.kept k, ⟨_, rfl⟩, q F H _ (Stp.refl w) (.str _)⟩
      have refs : ∀ {a : Addr}, u = .ref a → wpAny (model X.prog X.w) X.A (call (.builtin "repr") [u]) (EP X pins σ Q) X.xe s := by
        intro a ea
        subst ea
        obtain ⟨as, hr, hn⟩ := readsR I w.sub x v _ p r1 rv hp
        exact repr_of_reads' hr h1 (fun z => by rw [hn] at z; cases z) hg (by omega) (fun _ _ z => z) (fun h' u tk k => fin h' tk u k) h3
      cases x with
      | non => cases r1; cases rv; simp only [toPyR] at hp; cases hp; simp only [PyData.shown] at fin; exact P.repr_of_none (fin s.heap _ _ fun _ _ z => z)
      | bl b => cases r1; cases rv; simp only [toPyR] at hp; cases hp; simp only [PyData.shown] at fin; exact P.repr_of_bool (by have := fin s.heap (s.toks + 1) s.toks (fun _ _ z => z); cases b <;> exact this)
      | int i =>
        cases r1; obtain ⟨t, rfl⟩ := rv; simp only [toPyR] at hp; cases hp; simp only [PyData.shown] at fin
        simp only [PyData.showable, decide_eq_true_eq] at h1
        exact P.repr_of_int h1 (fin s.heap _ _ fun _ _ z => z)
      | str i => cases r1; obtain ⟨t, rfl⟩ := rv; simp only [toPyR] at hp; cases hp; simp only [PyData.shown] at fin h3; exact P.repr_of_str (fin s.heap _ _ fun _ _ z => z) h3
      | tup ds => obtain ⟨a, _, rfl, _, _⟩ := rep_tup r1; exact refs rv
      | lst ds => obtain ⟨a, _, rfl, _, _⟩ := rep_lst r1; exact refs rv
      | _ => simp [toPyR] at hp
    · cases ht
  match ds, rr, e with
  | [.dic0], rr, e =>
    obtain ⟨v, rfl, r1⟩ := repL1 rr
    obtain ⟨u, rfl, rv⟩ := vals1 r
    obtain ⟨a, as, rfl, hr, hn⟩ := reads0 I w.sub r1 rv
    cases e
    exact repr_of_reads' hr rfl (fun _ => hn) hg (by show X.A.units + (PyData.depth (.dict []) + 1) < cLine; have : PyData.depth (.dict []) ≤ 60 := by decide
                                                     omega) (fun _ _ z => z) (fun h' u tk k => ⟨.str (PyData.dict []).shown, H, I.kept k, ⟨_, rfl⟩, q F H _ (Stp.refl w) (.str _)⟩) (by decide)
  | [.non], rr, e => exact main _ rfl e
  | [.bl _], rr, e => exact main _ rfl e
  | [.int _], rr, e => exact main _ rfl e
  | [.str _], rr, e => exact main _ rfl e
  | [.tup _], rr, e => exact main _ rfl e
  | [.lst _], rr, e => exact main _ rfl e
  | [.ty _], rr, e => exact main _ rfl e
  | [.scr _], rr, e => exact main _ rfl e
  | [.cls _], rr, e => exact main _ rfl e
  | [.obj _ _], rr, e => exact main _ rfl e
  | [.hdl _], rr, e => exact main _ rfl e
  | [.exo _ _ _], rr, e => exact main _ rfl e
end

/-! ### own exceptions -/
/-- what the written part says of the class at C over the built-in B, whose __init__ (at fI) stores its one argument as fld -/
structure ExM (K : PySem.W.Frag) (C fI : Addr) (fld : Str) : Prop where
  base : ∃ (B newId initId : String) (bmB : List Value), ExcBaseFacts B newId initId bmB ∧ StoreFacts B bmB "object.__setattr__" "object" ∧ PySem.W.excInitIn K C bmB newId = true ∧ PySem.W.excOver K C bmB = true
  sa : PySem.W.findIn K (.ref C) "__setattr__" = some (some (.builtin "object.__setattr__"))
  no : PySem.W.findIn K (.ref C) fld = some none
  hd : PySem.W.hasDictIn K C = true
  kC : PySem.W.keepIn K (.ref C) = true
  exC : PySem.W.subIn K (.ref C) (.type "BaseException") = some true
  tyC : PySem.W.typeIn K (.ref C) = some (.type "type")
  iC : PySem.W.findIn K (.ref C) "__init__" = some (some (.ref fI))
  tI : PySem.W.typeIn K (.ref fI) = some (.type "function")
section
variable {X : Cx} {pins : List (Addr × Obj)} {σ : L2.St} {H : Hp} {s : Shared} {a C fI : Addr} {fld : Str} {y : V} {u : Value} {Q : Unit → Shared → Prop} {E : Value → Shared → Prop} {A : Around}
/-- the first store of a fresh exception -/
theorem store_first (T : ExM X.K C fI fld) (I : Inv X pins σ H s) (e : H a = some (L2.exo a C none)) (ry : RelV y u)
    (h : ∀ dx s', H dx = none → dx ≠ a → Inv X pins σ (upd (upd H dx (exd dx [(fld, y)])) a (L2.exo a C (some dx))) s' → Q () s') : wpAny (model X.prog X.w) A (setAttr (.ref a) fld u) Q E s := by
  obtain ⟨B, nw, ini, bmB, FB, SF, hin, hov⟩ := T.base
  obtain ⟨t1, ho⟩ := exo_at I.hok e
  have KX := I.kIn
  have ht : PySem.W.takerIn X.K C fld = some none := NoAttr.taker T.no
  obtain ⟨cd, hc, hdd⟩ := PySem.W.any_some T.hd
  have hxs : a ≠ s.heap.objs.size := Nat.ne_of_lt (Heap.lt_size ho)
  refine PySem.W.set_plain KX (ox := PySem.W.excObj C t1 none .none) (od := none) ⟨ho, rfl, rfl, trivial⟩ T.sa ?_
  refine PySem.W.osa_openX (od := none) (s := { s with toks := s.toks + 1 }) SF KX ⟨ho, rfl, rfl, trivial⟩ hov ht fun b => ?_
  refine wpAny_bind (wpAny_pure (wpAny_bind (PySem.W.instanceDict_exc (s := { s with toks := s.toks + 1 }) ho (PySem.W.looks_clsIn KX hc) hdd ?_)))
  refine PySem.HandSPX.store_in_new ?_ fun h' tk' hn hs => ?_
  · refine ⟨_, #[], _, (Heap.get?_update_ne _ _ _ _ ?_).trans (Heap.get?_push_at rfl rfl), rfl, fun e he => absurd he (by simp), fun _ => rfl⟩
    exact hxs.symm
  · show Q () _
    have hx2 : h'.get? a = some (PySem.W.excObj C t1 (some s.heap.objs.size) .none) :=
      (hs.2 a hxs).trans (Heap.get?_update_self _ (Heap.get?_push_of_some _ ho) rfl)
    have k : ∀ b o, b ≠ a → s.heap.get? b = some o → h'.get? b = some o := fun b o hb q =>
      (hs.2 b (Nat.ne_of_lt (Heap.lt_size q))).trans ((Heap.get?_update_ne _ _ _ _ hb).trans (Heap.get?_push_of_some _ q))
    have hnd : H s.heap.objs.size = none := I.hok.fresh (Nat.le_refl _)
    have nd : ∀ {b : Addr} {o : Obj}, s.heap.get? b = some o → b ≠ s.heap.objs.size := fun {b o} q => Nat.ne_of_lt (Heap.lt_size q)
    have na : ∀ {b : Addr}, H b = none → b ≠ a := fun {b} n z => by rw [z, e] at n; cases n
    have un : Un X.fs [] H (upd (upd H s.heap.objs.size (exd s.heap.objs.size [(fld, y)])) a (L2.exo a C (some s.heap.objs.size))) s.heap h' := {
      keep := fun b o q n _ _ => k b o (na n) q
      slot := fun b o q n _ _ => ⟨o.slots, k b o (na n) q⟩
      free := fun b o q n _ => (upd_ne (na n)).trans ((upd_ne (nd q)).trans n)
      there := fun b o q _ => if hb : b = a then ⟨_, hb ▸ hx2⟩ else ⟨o, k b o hb q⟩
      tups := fun b xs q => (upd_ne (at_ne e q exo_tup)).trans ((upd_ne (ne_of_none q hnd)).trans q)
      frzs := fun b o v q => (upd_ne (at_ne e q exo_frz)).trans ((upd_ne (ne_of_none q hnd)).trans q)
      tbls := fun b ps q => ⟨#[], by rw [Array.append_empty]; exact (upd_ne (at_ne e q exo_tbl)).trans ((upd_ne (ne_of_none q hnd)).trans q)⟩ }
    refine h s.heap.objs.size _ hnd hxs.symm (I.un (t' := tk') un fun b o q => ?_)
    by_cases hb : b = a
    · subst hb
      rw [upd_same] at q
      cases q
      exact exo_ok hx2
    rw [upd_ne hb] at q
    by_cases hd : b = s.heap.objs.size
    · subst hd
      rw [upd_same] at q
      cases q
      exact exd_ok hn (relO_put (fs := []) ry fun g => True.intro)
    rw [upd_ne hd] at q
    refine (I.hok b o q).stay (fun c v hc z => k c v ?_ z) (fun c hc => ?_) fun c xs hc => ?_
    · rcases hc with rfl | hc
      · exact hb
      · exact at_ne e hc exo_own
    · exact (upd_ne (at_ne e hc exo_own)).trans ((upd_ne (ne_of_none hc hnd)).trans hc)
    · exact (upd_ne (at_ne e hc exo_tup)).trans ((upd_ne (ne_of_none hc hnd)).trans hc)
end
/-- what __init__(self, x) of such a class keeps -/
def spInit (C : Addr) (fld : Str) : Sp := fun vs H Q _ => ∃ (a : Addr) (y : V), vs = [.ref a, y] ∧ H a = some (L2.exo a C none) ∧ ∀ dx, H dx = none → dx ≠ a → Q .non (upd (upd H dx (exd dx [(fld, y)])) a (L2.exo a C (some dx)))
section
variable {P : Program} {w : World} {K : PySem.W.Frag} {mg : Str → Option Value} {base : Heap} {X : Cx}
def tStore (C : Addr) (fld : Str) (to te : TE) : TS := fun D σ H => te σ H fun y H1 => to σ H1 fun x H2 => ∃ a : Addr, x = .ref a ∧ H2 a = some (L2.exo a C none) ∧ ∀ dx, H2 dx = none → dx ≠ a → D.nx σ (upd (upd H2 dx (exd dx [(fld, y)])) a (L2.exo a C (some dx)))
theorem ps_store {C fI : Addr} {fld : Str} {o e : Expr} {to te : TE} {p' pos : Pos} (T : ExM X.K C fI fld) (ho : PE X o to) (he : PE X e te) (hs : swapsWith e (some (.Attribute o fld p')) pos.line X.env = pure false := by rfl) :
    PS X (.Assign [.Attribute o fld p'] e pos) (tStore C fld to te) := by
  refine ⟨fun pins s σ H D I h => ?_⟩
  refine plainObj_wpAny_Assign_Attribute (thn (he.run pins s σ H _ I h) fun v s1 ⟨y, H1, I1, r1, q1⟩ => thn (ho.run pins s1 σ H1 _ I1 q1) fun u s2 ⟨x, H2, I2, r2, a, ex, ea, q⟩ => ?_) hs
  subst ex
  obtain rfl : u = Value.ref a := r2
  exact store_first T I2 ea r1 fun dx s' n ne J => ⟨σ, _, J, q dx n ne⟩
theorem ok_init {x qual fld arg : Str} {st : Stmt} {C fI : Addr} {fd : FuncData} {p1 p2 p3 p4 : Pos} (F : Fun K x qual st fI fd) (S : FnScope ["self", arg] ["self", arg] (defScope st)) (T : ExM K C fI fld)
    (hb : defBody st = [.Assign [.Attribute (.Name "self" p1) fld p2] (.Name arg p3) p4]) (hsw : ∀ env : Env, env.scope = defScope st → swapsWith (.Name arg p3) (some (.Attribute (.Name "self" p1) fld p2)) p4.line env = pure false)
    (v1 : Vis (defScope st) "self") (v2 : Vis (defScope st) arg) (hd1 : (arg == ("__debug__" : Str)) = false) (hd2 : (arg == ("__classdict__" : Str)) = false) : FnOk P w K mg base CX0 1 fI fd ["self", arg] (spInit C fld) := by
  refine F.ok S (fun vs H Q E h => ?_) fun cdv A outer s H vs Q E hr h => ?_
  · obtain ⟨a, y, rfl, _⟩ := h
    rfl
  · obtain ⟨a, y, rfl, ha, k⟩ := h
    rw [hb]
    refine ⟨_, pss_one (ps_store T (pe_var (i := 0) rfl v1) (pe_var (i := 1) rfl v2 hd1 hd2) (hsw _ rfl)), ?_⟩
    exact ⟨y, rfl, .ref a, rfl, a, rfl, ha, fun dx h1 h2 => k dx h1 h2⟩
end
section
variable {R : Res} {X : Cx} {W : WX} {C fI : Addr} {fld arg x : Str} {fd : FuncData} {k : Nat}
/-- what such a call leaves -/
def MadeP (X : Cx) (pins : List (Addr × Obj)) (σ : L2.St) (H1 : Hp) (C : Addr) (fld : Str) (y : V) (s1 : Shared) (a : Addr) (s' : Shared) : Prop :=
  ∃ dx, H1 a = none ∧ H1 dx = none ∧ dx ≠ a ∧ Inv X pins σ (upd (upd (upd H1 a (L2.exo a C none)) dx (exd dx [(fld, y)])) a (L2.exo a C (some dx))) s'
/-- C(v), C(fld = v) -/
theorem run_exc {pins : List (Addr × Obj)} {σ : L2.St} {H : Hp} {s : Shared} {y : V} {args : Args} {u : Value} {Q : Value → Shared → Prop} (T : ExM X.K C fI fld) (F1 : FnOk X.prog X.w X.K X.mg X.base CX0 k fI fd ["self", arg] (spInit C fld)) (hr : Room (k + 1) X.A)
    (ha : args = ⟨[u], []⟩) (hb : Binds X.K fd ["self", arg] []) (I : Inv X pins σ H s) (r : RelV y u) (h : ∀ a s', MadeP X pins σ H C fld y s a s' → Q (.ref a) s') : wpAny (model X.prog X.w) X.A (call (.ref C) [u]) Q X.xe s := by
  obtain ⟨B, nw, ini, bmB, FB, SF, hin, hov⟩ := T.base
  obtain ⟨nm, N, qn, bs, bm, hdct, sn, sub, ab, col, dd, k0, k1, k2, k3, k5, hC, hbm⟩ := PySem.W.excInit_of I.kIn hin
  obtain ⟨hp, g, dr, tk, os⟩ := s
  have hsz : hp.objs.size ≤ hp.objs.size + 1 := Nat.le_succ _
  have hn : H (hp.objs.size + 1) = none := I.hok.fresh hsz
  have kk : ∀ b o, hp.get? b = some o → ((hp.push (PySem.W.kdv_tup [u])).push (PySem.HandSPX.excO C hp.objs.size)).get? b = some o := fun b o e => Heap.get?_push_of_some _ (Heap.get?_push_of_some _ e)
  have hget : ((hp.push (PySem.W.kdv_tup [u])).push (PySem.HandSPX.excO C hp.objs.size)).get? (hp.objs.size + 1) = some (PySem.HandSPX.excO C hp.objs.size) := by heap_get
  have I2 : Inv X pins σ (upd H (hp.objs.size + 1) (L2.exo (hp.objs.size + 1) C none)) ⟨(hp.push (PySem.W.kdv_tup [u])).push (PySem.HandSPX.excO C hp.objs.size), g, dr, tk, os⟩ := I.laid (t' := tk) kk hsz (exo_ok hget)
  have b := hb ⟨(hp.push (PySem.W.kdv_tup [u])).push (PySem.HandSPX.excO C hp.objs.size), g, dr, tk, os⟩ [.ref (hp.objs.size + 1), u] I2.kIn rfl
  rw [List.append_nil] at b
  refine wpAny_call (PySem.HandSPX.call_own FB hbm hC (PySem.W.looks_findIn I.kIn T.iC) (fun self => PySem.W.bind_fn I.kIn self T.tI) (by show 1 ≤ sizeLine; decide)
    (codeAny_mono (F1.run _ X.stack _ _ ⟨[.ref (hp.objs.size + 1), u], []⟩ [.ref (hp.objs.size + 1), u] [.ref (hp.objs.size + 1), y] (fun v H2 => v = .non ∧ ∃ dx, (upd H (hp.objs.size + 1) (L2.exo (hp.objs.size + 1) C none)) dx = none ∧ dx ≠ hp.objs.size + 1 ∧
        H2 = upd (upd (upd H (hp.objs.size + 1) (L2.exo (hp.objs.size + 1) C none)) dx (exd dx [(fld, y)])) (hp.objs.size + 1) (L2.exo (hp.objs.size + 1) C (some dx))) (fun _ _ _ => False)
      (hr.make C [u] []) (I2.env0.make C [u] []) b (.cons rfl (.cons r .nil)) ⟨hp.objs.size + 1, y, rfl, upd_same, fun dx h1 h2 => ⟨rfl, dx, h1, h2, rfl⟩⟩) fun res s' hq => ?_))
  match res, hq with
  | .ok (.ret uu), hq =>
    obtain ⟨v, H2, I3, rv, ev, dx, h1, h2, eH⟩ := I2.after hq
    subst ev
    subst eH
    exact ⟨rv, h _ s' ⟨dx, hn, by rw [upd_ne h2] at h1; exact h1, h2, I3⟩⟩
/-- such an exception as a value -/
theorem made_rep {pins : List (Addr × Obj)} {σ : L2.St} {m : R.M} {F H : Hp} {y : V} {d : D} {a : Addr} {s s' : Shared} (w : Wf R m F H) (ry : Rep X.K F y d) (M : MadeP X pins σ H C fld y s a s') :
    ∃ F' H', Inv X pins σ H' s' ∧ Stp R m F H m F' H' ∧ Rep X.K F' (.ref a) (.exo C fld d) := by
  obtain ⟨dx, ha, hdx, hne, J⟩ := M
  have st1 := Stp.new w hdx (o := exd dx [(fld, y)]) (fun ps z => by cases z)
  have ha1 : upd H dx (exd dx [(fld, y)]) a = none := by rw [upd_ne (Ne.symm hne)]; exact ha
  have st2 := Stp.new st1.wf ha1 (o := L2.exo a C (some dx)) (fun ps z => by cases z)
  have eH : upd (upd (upd H a (L2.exo a C none)) dx (exd dx [(fld, y)])) a (L2.exo a C (some dx)) = upd (upd H dx (exd dx [(fld, y)])) a (L2.exo a C (some dx)) := by
    funext b
    by_cases e : b = a
    · rw [e, upd_same, upd_same]
    · rw [upd_ne e, upd_ne e]
      by_cases e2 : b = dx
      · rw [e2, upd_same, upd_same]
      · rw [upd_ne e2, upd_ne e2, upd_ne e]
  rw [eH] at J
  exact ⟨_, _, J, st1.trans st2, .exo upd_same (by rw [upd_ne hne]; exact upd_same) (ry.up (st1.up.trans st2.up))⟩
def dExo {M : Type} (C : Addr) (fld : Str) (e : DEnv → Mo M D) : DEnv → Mo M D := fun ρ => Mo.bnd (e ρ) fun d => Mo.ret (.exo C fld d)
theorem je_exo {e : Expr} {fa : DEnv → Mo R.M D} {p pos : Pos} (T : ExM X.K C fI fld) (F1 : FnOk X.prog X.w X.K X.mg X.base CX0 k fI fd ["self", arg] (spInit C fld)) (hr : Room (k + 1) X.A) (hb : Binds X.K fd ["self", arg] []) (hm : X.mg x = some (.ref C)) (he : JE R X W e fa)
    (hg : Gl X x := by rfl) (hdb : (x == ("__debug__" : Str)) = false := by decide) (hst : starEach [e] X.env = (false, eval e X.env) :: starEach [] X.env := by rfl) (hpl : (backTo pos (starEach [] X.env)).any (·.1) = false := by rfl) :
    JE R X W (.Call (.Name x p) [e] [] pos) (dExo C fld fa) := by
  refine ⟨fun pins s σ H Q I h => ?_⟩
  obtain ⟨m, F, ρ, w, er, p0⟩ := h
  refine wpAny_Call_Name_kw (ld_glob I hg hm ?_ hdb)
  have hl : JL R X W [e] (dCons fa dNil) := jl_cons he jl_nil hst
  refine PySem.W.callWith_K (h₀ := X.base) I.ok.mod.kin T.kC (thn (hl.run pos pins s σ H (fun vs H1 => ∃ m1 F1 y d, vs = [y] ∧ Wf R m1 F1 H1 ∧ Rep X.K F1 y d ∧ ∀ F' H', Stp R m1 F1 H1 m1 F' H' → ∀ v, Rep X.K F' v (.exo C fld d) → Q v H') I ⟨m, F, ρ, w, er, ?_⟩)
    fun us s1 ⟨vs, H1, I1, r, m1, F1', y, d, ev, w1, ry, q⟩ => ⟨I1.kIn, ?_⟩) hst hpl
  · unfold dCons
    have := p0.split
    unfold Mo.bnd
    cases e1 : fa ρ m with
    | ok d m1 =>
      rw [e1] at this
      intro F' H' st vs rvs
      obtain ⟨y, rfl, ry⟩ := repL1 rvs
      exact ⟨m1, F', y, d, rfl, st.wf, ry, fun F2 H2 st2 v rv => this F' H' st F2 H2 st2 v rv⟩
    | exc C f d m1 => rw [e1] at this; exact this
    | bad => rw [e1] at this; exact this
  · subst ev
    obtain ⟨u, rfl, ru⟩ := vals1 r
    refine run_exc T F1 hr rfl hb I1 ru fun a s' M => ?_
    obtain ⟨F2, H2, J, st, rr⟩ := made_rep w1 ry M
    exact ⟨.ref a, H2, J, rfl, q F2 H2 st _ rr⟩
/-- x.fld, x such an exception -/
def exF (f : Str) : D → Option D
  | .exo _ g d => if g = f then some d else none
  | _ => none
theorem je_exf {e : Expr} {fa : DEnv → Mo R.M D} {pos : Pos} {ecs : List Addr} (he : JE R X W e fa) (hx : ∀ C ∈ ecs, ExcX X.K C ∧ PySem.W.findIn X.K (.ref C) fld = some none)
    (hb : attributeBase e fld X.env (eval e X.env) = eval e X.env := by rfl) : JE R X W (.Attribute e fld pos) (dUn (fun d => match d with | .exo C _ _ => if C ∈ ecs then exF fld d else none | _ => none) fa) := by
  refine ⟨fun pins s σ H Q I h => ?_⟩
  obtain ⟨m, F, ρ, w, er, p0⟩ := h
  refine attr_of hb (thn (he.run pins s σ H (fun v H1 => ∃ m1 F1 C g d, Wf R m1 F1 H1 ∧ Rep X.K F1 v (.exo C g d) ∧ C ∈ ecs ∧ g = fld ∧ ∀ v, Rep X.K F1 v d → Q v H1) I ⟨m, F, ρ, w, er, p0.split.mono fun d m1 F1 H1 s1 p1 v rv => ?_⟩) fun u s1 hh => ?_)
  · obtain ⟨d', e', q⟩ := Post.opt s1.wf p1
    cases d with
    | exo C g d =>
      dsimp only at e'
      split at e'
      · rename_i hC
        unfold exF at e'
        dsimp only at e'
        split at e'
        · rename_i hg
          cases e'
          exact ⟨m1, F1, C, g, _, s1.wf, rv, hC, hg, q⟩
        · cases e'
      · cases e'
    | _ => cases e'
  · obtain ⟨v, H1, I1, rv, m1, F1, C, g, d, w1, r1, hC, hg, q⟩ := hh
    subst hg
    cases r1 with
    | @exo a _ dd _ y _ e1 e2 ry =>
      obtain rfl : u = Value.ref a := rv
      obtain ⟨T, hno⟩ := hx C hC
      obtain ⟨ox, od, mA, J, rel, hl⟩ := inst_exo I1 (w1.sub _ _ e1) (w1.sub _ _ e2)
      have l : List.lookup g [(g, y)] = some y := by simp [List.lookup]
      obtain ⟨u2, hu, ru⟩ := RelO.some_of (v := y) (o := mA g) (by rw [← l]; exact rel g)
      exact HandSPX.exc_get I1.kIn J T.hga T.hgt T.hs (PySem.W.findObj_own T.hd hno rfl (by rw [hl, hu])) (handed_of ru) ⟨y, H1, I1.tok _, ru, q y ry⟩
end
end DE

/-! DE7k: an own exception made by a call with one keyword. -/
namespace DE
open PySem PySem.Spec L2 PySem.HandSPX Builtin Builtin.ObjectAttr
section
variable {M : Model} {A : Around} {E : Value → Shared → Prop} {h : Heap} {g : Array GenState} {d : Drawn} {t : Nat} {os : OsState}
variable {nm q : Str} {C N : Addr} {bs bm bmB : List Value} {hdct : Bool} {sn : List Str} {sub : List Value} {ab : Bool} {col : Option Bool} {dd : Option Addr} {k0 k1 k2 k3 k5 : Option Value} {B nw ini : String}
theorem kw_check (F : ExcBaseFacts B nw ini bmB) (hT : ∀ X : String, bm.contains (.type X) = bmB.contains (.type X)) {kw : Str} {u : Value} {Q : Unit → Shared → Prop}
    (hC : h.get? C = some (excClassObj nm q C N bs bm hdct sn sub ab col dd k0 k1 k2 k3 k5 nw)) (hq : Q () ⟨h, g, d, t, os⟩) : wpAny M A (checkBuiltinCall nw ⟨[.ref C], [(kw, u)]⟩) Q E ⟨h, g, d, t, os⟩ := by
  have e1 : (Value.ref C :: bm).contains (.type B) = true := by
    rw [List.contains_cons, hT]; rw [F.hasB, Bool.or_true]
  have e2 := F.noStar
  simp only [checkBuiltinCall, F.newKind, F.newSplit, F.newRow]
  repeat (first
    | refine wpAny_loadPart_at hC ?_
    | (refine wpAny_isSubtype_exc hC ?_
       rw [e1])
    | refine wpAny_staticBase_exc hC ?_
    | refine wpAny_madeBy_exc hC ?_
    | simp only [bne_self_eq_false, Bool.false_eq_true, if_false]
    | wp_step)
  exact hq
end
section
variable {prog : Program} {w : World} {A : Around} {E : Value → Shared → Prop} {R : Result → Shared → Prop} {h : Heap} {g : Array GenState} {d : Drawn} {t : Nat} {os : OsState}
variable {nm q : Str} {C N : Addr} {bs bm bmB : List Value} {hdct : Bool} {sn : List Str} {sub : List Value} {ab : Bool} {col : Option Bool} {dd : Option Addr} {k0 k1 k2 k3 k5 : Option Value} {B nw ini : String}
theorem kw_new (F : ExcBaseFacts B nw ini bmB) (hT : ∀ X : String, bm.contains (.type X) = bmB.contains (.type X)) {kw : Str} {u : Value} (hC : h.get? C = some (excClassObj nm q C N bs bm hdct sn sub ab col dd k0 k1 k2 k3 k5 nw))
    (hq : R (.ok (.ret (.ref (h.objs.size + 1)))) ⟨(h.push (PySem.W.kdv_tup [])).push (excO C h.objs.size), g, d, t, os⟩) : codeAny (model prog w) A (.builtin nw ⟨[.ref C], [(kw, u)]⟩) R ⟨h, g, d, t, os⟩ := by
  have e0 := F.ends
  have e1 : (Value.ref C :: bm).contains (.type B) = true := by
    rw [List.contains_cons, hT]; rw [F.hasB, Bool.or_true]
  have e2 : (Value.ref C :: bm).contains (.type "AttributeError") = false := by
    rw [List.contains_cons, hT]; rw [F.noAttr]; rfl
  have e3 : (Value.ref C :: bm).contains (.type "NameError") = false := by
    rw [List.contains_cons, hT]; rw [F.noName]; rfl
  refine codeAny_builtinAt F.entry ?_
  unfold Builtin.«BaseException.__new__»
  refine wpAt_bind ?_
  show wpAt _ _ _ (stack >>= _) _ _ _
  refine wpAt_bind (wpAt_stack ?_)
  intro p below
  refine wpAt_of_wpAny ?_
  wp_walk
  refine wpAt_of_wpAny ?_
  rw [F.owner]
  repeat (first
    | with_reducible refine wpAny_madeHere_exc F.canon hC ?_
    | with_reducible refine wpAny_loadPart_at hC ?_
    | (with_reducible refine wpAny_isSubtype_exc hC ?_
       first
         | rw [e1]
         | rw [e2]
         | rw [e3])
    | wp_step)
  show R _ _
  rw [Heap.size_push]
  exact hq
theorem kw_type (F : ExcBaseFacts B nw ini bmB) (hT : ∀ X : String, bm.contains (.type X) = bmB.contains (.type X)) {kw : Str} {u : Value} {fI : Addr} {Q : Fin → Shared → Prop}
    (hC : h.get? C = some (excClassObj nm q C N bs bm hdct sn sub ab col dd k0 k1 k2 k3 k5 nw)) (hi : W.Looks (model prog w) h (typeLookup (.ref C) "__init__") (some (.ref fI))) (hb : ∀ self, W.Looks (model prog w) h (bindSpecial (.ref fI) self) (.ref fI, [self]))
    (hq : codeAny (model prog w) A (.call (.ref fI) ⟨[.ref (h.objs.size + 1)], [(kw, u)]⟩) (fun r s' => match r with | .ok (.ret v) => v = .none ∧ Q (.done (.ret (.ref (h.objs.size + 1)))) s' | .ok _ => False | .error e => E e s')
      ⟨(h.push (PySem.W.kdv_tup [])).push (excO C h.objs.size), g, d, t, os⟩) : wpAny (model prog w) A (Builtin.«type.__call__» ⟨[.ref C], [(kw, u)]⟩) Q E ⟨h, g, d, t, os⟩ := by
  repeat (first
    | with_reducible refine wpAny_loadPart_at hC ?_
    | with_reducible refine wpAny_madeBy_exc hC ?_
    | wp_step)
  refine codeAny_call_builtin_code (Code.quiet_builtin _ F.quiet) ?_
  refine kw_check F hT hC ?_
  refine kw_new F hT hC ?_
  show wpAny _ _ _ _ _ _
  have kp : ∀ b o, h.get? b = some o → ((h.push (PySem.W.kdv_tup [])).push (excO C h.objs.size)).get? b = some o := fun b o e =>
    Heap.get?_push_of_some _ (Heap.get?_push_of_some _ e)
  have hC1 := kp _ _ hC
  have hg : ((h.push (PySem.W.kdv_tup [])).push (excO C h.objs.size)).get? (h.objs.size + 1) = some (excO C h.objs.size) := by
    heap_get
  have hm : (Value.ref C :: bm).contains (.ref C) = true := by simp
  have i1 := hi.keeps kp
  have b1 := (hb (.ref (h.objs.size + 1))).keeps kp
  unfold isInstance
  repeat (first
    | with_reducible refine wpAny_loadPart_at hg ?_
    | (with_reducible refine wpAny_isSubtype_exc hC1 ?_
       rw [hm])
    | wp_step)
  show wpAny _ _ (typeLookup (.ref C) _) _ _ _
  refine i1.at ?_
  refine wpAny_holding ?_
  refine wpAny_bind (b1.at ?_)
  refine wpAny_bind ?_
  refine wpAny_call (codeAny_mono hq ?_)
  intro r s' z
  match r, z with
  | .error e, z => exact z
  | .ok (.ret v), z =>
    obtain ⟨rfl, z⟩ := z
    first
      | exact wpAny_pure (wpAny_pure z)
      | (wp_walk
         exact z)
theorem kw_call (F : ExcBaseFacts B nw ini bmB) (hT : ∀ X : String, bm.contains (.type X) = bmB.contains (.type X)) {kw : Str} {u : Value} {fI : Addr} (hC : h.get? C = some (excClassObj nm q C N bs bm hdct sn sub ab col dd k0 k1 k2 k3 k5 nw))
    (hi : W.Looks (model prog w) h (typeLookup (.ref C) "__init__") (some (.ref fI))) (hb : ∀ self, W.Looks (model prog w) h (bindSpecial (.ref fI) self) (.ref fI, [self]))
    (hq : codeAny (model prog w) (A.under (.builtin "type.__call__" ⟨[.ref C], [(kw, u)]⟩)) (.call (.ref fI) ⟨[.ref (h.objs.size + 1)], [(kw, u)]⟩) (W.InitBack (h.objs.size + 1) R) ⟨(h.push (PySem.W.kdv_tup [])).push (excO C h.objs.size), g, d, t, os⟩) :
    codeAny (model prog w) A (.call (.ref C) ⟨[], [(kw, u)]⟩) R ⟨h, g, d, t, os⟩ := by
  have f1 := tc_lookup
  have f2 := tc_bind (.ref C)
  have hTy : (⟨h, g, d, t, os⟩ : Shared).TypeIs (.ref C) "type" := ⟨_, hC, rfl⟩
  refine codeAny_of_tree ?_
  show wpAny _ _ (callAny (.ref C) _) _ _ _
  repeat (any_goals (first
    | assumption
    | with_reducible refine wpAny_loadPart_at hC ?_
    | wp_step))
  refine ⟨rfl, ?_⟩
  refine codeAny_call_builtin_at (Code.quiet_builtin _ (by decide +kernel)) entry_typeCall ?_
  refine wpAny_check_type_call_sub hC (kw_type F hT hC hi hb (codeAny_mono hq fun r s' z => ?_))
  rcases r with e | (v | _ | _ | _) <;> exact z
end
section
variable {R : Res} {X : Cx} {W : WX} {C fI : Addr} {fld arg x : Str} {fd : FuncData} {k : Nat}
theorem run_excK {pins : List (Addr × Obj)} {σ : L2.St} {H : Hp} {s : Shared} {y : V} {u : Value} {Q : Value → Shared → Prop} (T : ExM X.K C fI fld) (F1 : FnOk X.prog X.w X.K X.mg X.base CX0 k fI fd ["self", arg] (spInit C fld)) (hr : Room (k + 1) X.A)
    (hb : ∀ (s : Shared) (o u : Value), BindsTo s fd ⟨[o], [(arg, u)]⟩ [("self", o), (arg, u)]) (I : Inv X pins σ H s) (r : RelV y u) (h : ∀ a s', MadeP X pins σ H C fld y s a s' → Q (.ref a) s') : wpAny (model X.prog X.w) X.A (call (.ref C) [] [(arg, u)]) Q X.xe s := by
  obtain ⟨B, nw, ini, bmB, FB, SF, hin, hov⟩ := T.base
  obtain ⟨nm, N, qn, bs, bm, hdct, sn, sub, ab, col, dd, k0, k1, k2, k3, k5, hC, hbm⟩ := PySem.W.excInit_of I.kIn hin
  obtain ⟨hp, g, dr, tk, os⟩ := s
  have hsz : hp.objs.size ≤ hp.objs.size + 1 := Nat.le_succ _
  have hn : H (hp.objs.size + 1) = none := I.hok.fresh hsz
  have kk : ∀ b o, hp.get? b = some o → ((hp.push (PySem.W.kdv_tup [])).push (PySem.HandSPX.excO C hp.objs.size)).get? b = some o := fun b o e => Heap.get?_push_of_some _ (Heap.get?_push_of_some _ e)
  have hget : ((hp.push (PySem.W.kdv_tup [])).push (PySem.HandSPX.excO C hp.objs.size)).get? (hp.objs.size + 1) = some (PySem.HandSPX.excO C hp.objs.size) := by heap_get
  have I2 : Inv X pins σ (upd H (hp.objs.size + 1) (L2.exo (hp.objs.size + 1) C none)) ⟨(hp.push (PySem.W.kdv_tup [])).push (PySem.HandSPX.excO C hp.objs.size), g, dr, tk, os⟩ := I.laid (t' := tk) kk hsz (exo_ok hget)
  have b := hb ⟨(hp.push (PySem.W.kdv_tup [])).push (PySem.HandSPX.excO C hp.objs.size), g, dr, tk, os⟩ (.ref (hp.objs.size + 1)) u
  refine wpAny_call (kw_call FB hbm hC (PySem.W.looks_findIn I.kIn T.iC) (fun self => PySem.W.bind_fn I.kIn self T.tI)
    (codeAny_mono (F1.run _ X.stack _ _ ⟨[.ref (hp.objs.size + 1)], [(arg, u)]⟩ [.ref (hp.objs.size + 1), u] [.ref (hp.objs.size + 1), y] (fun v H2 => v = .non ∧ ∃ dx, (upd H (hp.objs.size + 1) (L2.exo (hp.objs.size + 1) C none)) dx = none ∧ dx ≠ hp.objs.size + 1 ∧
        H2 = upd (upd (upd H (hp.objs.size + 1) (L2.exo (hp.objs.size + 1) C none)) dx (exd dx [(fld, y)])) (hp.objs.size + 1) (L2.exo (hp.objs.size + 1) C (some dx))) (fun _ _ _ => False)
      (hr.make C [] [(arg, u)]) (I2.env0.make C [] [(arg, u)]) b (.cons rfl (.cons r .nil)) ⟨hp.objs.size + 1, y, rfl, upd_same, fun dx h1 h2 => ⟨rfl, dx, h1, h2, rfl⟩⟩) fun res s' hq => ?_))
  match res, hq with
  | .ok (.ret uu), hq =>
    obtain ⟨v, H2, I3, rv, ev, dx, h1, h2, eH⟩ := I2.after hq
    subst ev
    subst eH
    exact ⟨rv, h _ s' ⟨dx, hn, by rw [upd_ne h2] at h1; exact h1, h2, I3⟩⟩
theorem je_exoK {e : Expr} {fa : DEnv → Mo R.M D} {p pos kpos : Pos} (T : ExM X.K C fI fld) (F1 : FnOk X.prog X.w X.K X.mg X.base CX0 k fI fd ["self", arg] (spInit C fld)) (hr : Room (k + 1) X.A) (hb : ∀ (s : Shared) (o u : Value), BindsTo s fd ⟨[o], [(arg, u)]⟩ [("self", o), (arg, u)])
    (hm : X.mg x = some (.ref C)) (he : JE R X W e fa) (hg : Gl X x := by rfl) (hdb : (x == ("__debug__" : Str)) = false := by decide) (hall : (backToKw pos (keywordEach [⟨some arg, e, kpos⟩] X.env)).all (·.1.isSome) = true := by rfl)
    (hks : (backToKw pos (keywordEach [⟨some arg, e, kpos⟩] X.env)).filterMap (·.1) = [arg] := by rfl) (hpl : ((backTo pos (starEach [] X.env)).any (·.1) || (backToKw pos (keywordEach [⟨some arg, e, kpos⟩] X.env)).any (·.1.isNone)) = false := by rfl) :
    JE R X W (.Call (.Name x p) [] [⟨some arg, e, kpos⟩] pos) (dExo C fld fa) := by
  refine ⟨fun pins s σ H Q I h => ?_⟩
  obtain ⟨m, F, ρ, w, er, p0⟩ := h
  refine wpAny_Call_Name_kw (ld_glob I hg hm ?_ hdb)
  refine PySem.W.callWith_KW0 (h₀ := X.base) I.ok.mod.kin T.kC hall ?_ hpl
  refine thn ((pk_cons (nm := some arg) (kpos := kpos) he pk_nil).run pos pins s σ H (fun vs H1 => ∃ m1 F1 y d, vs = [y] ∧ Wf R m1 F1 H1 ∧ Rep X.K F1 y d ∧ ∀ F' H', Stp R m1 F1 H1 m1 F' H' → ∀ v, Rep X.K F' v (.exo C fld d) → Q v H') I
    ⟨m, F, ρ, w, er, p0.split.mono fun d m1 F1 H1 s1 p1 v rv => ⟨m1, F1, v, d, rfl, s1.wf, rv, fun F2 H2 st2 z rz => p1 F2 H2 st2 z rz⟩⟩) fun us s1 ⟨vs, H1, I1, r, m1, F1', y, d, ev, w1, ry, q⟩ => ⟨I1.kIn, ?_⟩
  subst ev
  obtain ⟨u, rfl, ru⟩ := vals1 r
  rw [hks]
  refine run_excK T F1 hr hb I1 ru fun a s' M => ?_
  obtain ⟨F2, H2, J, st, rr⟩ := made_rep w1 ry M
  exact ⟨.ref a, H2, J, rfl, q F2 H2 st _ rr⟩
end
end DE

/-! DE8: the draws' state as a resource. -/
namespace DE
open PySem PySem.Spec PyProof.Rows L2
structure DM where
  cells : List Int
  left : List Int
  at_ : Int
def mD (c l : Addr) (t : Int) : List (Key × V) := [(.inr "cells", .ref c), (.inr "left", .ref l), (.inr "at", .int t)]
theorem mD_inj {c l c' l' : Addr} {t t' : Int} (h : mD c l t = mD c' l' t') : c = c' ∧ l = l' ∧ t = t' := by
  unfold mD at h
  simp only [List.cons.injEq, Prod.mk.injEq, V.ref.injEq, V.int.injEq, true_and, and_true] at h
  exact h
theorem mD_cells (c l : Addr) (t : Int) : valV (mD c l t) (.inr "cells") = some (.ref c) := by
  unfold mD; rw [valV_pos rfl]
theorem ne_lc : ¬ (("cells" : Str) = "left") := by decide +kernel
theorem ne_ac : ¬ (("cells" : Str) = "at") := by decide +kernel
theorem ne_al : ¬ (("left" : Str) = "at") := by decide +kernel
theorem mD_left (c l : Addr) (t : Int) : valV (mD c l t) (.inr "left") = some (.ref l) := by
  unfold mD
  rw [valV_neg (fun z => ne_lc (Sum.inr.inj z)), valV_pos rfl]
theorem mD_at (c l : Addr) (t : Int) : valV (mD c l t) (.inr "at") = some (.int t) := by
  unfold mD
  rw [valV_neg (fun z => ne_ac (Sum.inr.inj z)), valV_neg (fun z => ne_al (Sum.inr.inj z)), valV_pos rfl]
theorem mD_putL (c l p : Addr) (t : Int) : putK (mD c l t) (.inr "left") (.ref p) = mD c p t := by
  unfold putK mD
  simp [ne_lc, ne_al, Ne.symm ne_al, fun z => ne_al (Eq.symm z)]
theorem mD_putA (c l : Addr) (t u : Int) : putK (mD c l t) (.inr "at") (.int u) = mD c l u := by
  unfold putK mD
  simp [ne_ac, ne_al]
def drawR (am : Addr) : Res where
  M := DM
  own := fun _ H a => a = am ∨ ∃ c t, H am = some (.dK (mD c a t))
  inv := fun m F H => ∃ c l, H am = some (.dK (mD c l m.at_)) ∧ F c = some (.lst (m.cells.map V.int)) ∧ H l = some (.lst (m.left.map V.int)) ∧ m.cells.length ≤ 1000
  step := fun {m F H F' H'} ⟨c, l, h1, h2, h3, h4⟩ up off same => by
    have e1 : H' am = H am := same am (.inl rfl)
    have e2 : H' l = H l := same l (.inr ⟨c, _, h1⟩)
    exact ⟨⟨c, l, e1.trans h1, up _ _ h2, e2.trans h3, h4⟩, fun a h => h.imp id fun ⟨c', t', z⟩ => ⟨c', t', by rw [← e1]; exact z⟩⟩
section
variable {am : Addr} {m : DM} {F H : Hp}
/-- where things stand -/
theorem draw_at (w : Wf (drawR am) m F H) : ∃ c l, H am = some (.dK (mD c l m.at_)) ∧ F c = some (.lst (m.cells.map V.int)) ∧ H l = some (.lst (m.left.map V.int)) ∧ m.cells.length ≤ 1000 ∧ F am = none ∧ F l = none ∧ l ≠ am := by
  obtain ⟨c, l, h1, h2, h3, h4⟩ := w.inv
  refine ⟨c, l, h1, h2, h3, h4, w.off am (.inl rfl), w.off l (.inr ⟨c, _, h1⟩), fun e => ?_⟩
  rw [e, h1] at h3
  cases h3
/-- m["left"] is another, new list -/
theorem draw_left {c l p : Addr} {xs : List Int} (w : Wf (drawR am) m F H) (h1 : H am = some (.dK (mD c l m.at_))) (hp : H p = none) :
    Stp (drawR am) m F H { m with left := xs } F (upd (upd H p (.lst (xs.map V.int))) am (.dK (mD c p m.at_))) := by
  have pam : p ≠ am := fun e => by rw [e, h1] at hp; cases hp
  have fp : F p = none := by
    cases q : F p with
    | none => rfl
    | some o => rw [w.sub _ _ q] at hp; cases hp
  have fam := w.off am (.inl rfl)
  obtain ⟨c', l', g1, g2, g3, g4⟩ := w.inv
  rw [h1] at g1
  obtain ⟨rfl, rfl, _⟩ := mD_inj (by injection g1 with g1; injection g1)
  have own' : ∀ a, (drawR am).own { m with left := xs } (upd (upd H p (.lst (xs.map V.int))) am (.dK (mD c p m.at_))) a → a = am ∨ a = p := fun a h => by
    rcases h with h | ⟨c2, t2, h⟩
    · exact .inl h
    · rw [upd_same] at h
      injection h with h
      injection h with h
      exact .inr (mD_inj h).2.1.symm
  refine ⟨Same.refl _, fun a h1 h2 => absurd h1 h2, fun a o e n nt => ?_, fun a h => ?_, fun a h => ?_, ⟨fun a o e => ?_, w.clean, ⟨c, p, upd_same, g2, by rw [upd_ne pam]; exact upd_same, g4⟩, fun a h => ?_, fun a h => ?_⟩⟩
  · rw [upd_ne (fun e => n (.inl e)), upd_ne (fun z => by rw [z, hp] at e; cases e)]; exact e
  · by_cases z : a = am
    · rw [z, upd_same]; simp
    · rw [upd_ne z]
      by_cases z2 : a = p
      · rw [z2, upd_same]; simp
      · rw [upd_ne z2]; exact h
  · rcases own' a h with z | z
    · exact .inl (.inl z)
    · exact .inr (z ▸ hp)
  · rw [upd_ne (fun z => by rw [z, fam] at e; cases e), upd_ne (fun z => by rw [z, fp] at e; cases e)]
    exact w.sub _ _ e
  · rcases own' a h with z | z
    · rw [z]; exact fam
    · rw [z]; exact fp
  · rcases own' a h with z | z
    · rw [z]; exact ⟨_, upd_same, fun _ y => nomatch y⟩
    · rw [z, upd_ne pam]; exact ⟨_, upd_same, fun _ y => nomatch y⟩
/-- the list itself is changed -/
theorem draw_set {c l : Addr} {xs : List Int} (w : Wf (drawR am) m F H) (h1 : H am = some (.dK (mD c l m.at_))) : Stp (drawR am) m F H { m with left := xs } F (upd H l (.lst (xs.map V.int))) := by
  obtain ⟨c', l', g1, g2, g3, g4⟩ := w.inv
  have g1' := g1
  rw [h1] at g1
  obtain ⟨rfl, rfl, _⟩ := mD_inj (by injection g1 with g1; injection g1)
  have lam : l ≠ am := fun e => by rw [e, h1] at g3; cases g3
  have fam := w.off am (.inl rfl)
  have fl := w.off l (.inr ⟨c, _, h1⟩)
  have own' : ∀ a, (drawR am).own { m with left := xs } (upd H l (.lst (xs.map V.int))) a → (drawR am).own m H a := fun a h => by
    rcases h with h | ⟨c2, t2, h⟩
    · exact .inl h
    · rw [upd_ne (Ne.symm lam)] at h
      exact .inr ⟨c2, t2, h⟩
  refine ⟨Same.refl _, fun a h1 h2 => absurd h1 h2, fun a o e n nt => ?_, fun a h => ?_, fun a h => .inl (own' a h), ⟨fun a o e => ?_, w.clean, ⟨c, l, by rw [upd_ne (Ne.symm lam)]; exact h1, g2, upd_same, g4⟩, fun a h => w.off a (own' a h), fun a h => ?_⟩⟩
  · rw [upd_ne (fun z => n (.inr ⟨c, _, z ▸ h1⟩))]; exact e
  · by_cases z : a = l
    · rw [z, upd_same]; simp
    · rw [upd_ne z]; exact h
  · rw [upd_ne (fun z => by rw [z, fl] at e; cases e)]
    exact w.sub _ _ e
  · by_cases z : a = l
    · rw [z]; exact ⟨_, upd_same, fun _ y => nomatch y⟩
    · rw [upd_ne z]; exact w.trk a (own' a h)
theorem draw_cnt {c l : Addr} {t : Int} (w : Wf (drawR am) m F H) (h1 : H am = some (.dK (mD c l m.at_))) : Stp (drawR am) m F H { m with at_ := t } F (upd H am (.dK (mD c l t))) := by
  obtain ⟨c', l', g1, g2, g3, g4⟩ := w.inv
  rw [h1] at g1
  obtain ⟨rfl, rfl, _⟩ := mD_inj (by injection g1 with g1; injection g1)
  have lam : l ≠ am := fun e => by rw [e, h1] at g3; cases g3
  have fam := w.off am (.inl rfl)
  have own' : ∀ a, (drawR am).own { m with at_ := t } (upd H am (.dK (mD c l t))) a → (drawR am).own m H a := fun a h => by
    rcases h with h | ⟨c2, t2, h⟩
    · exact .inl h
    · rw [upd_same] at h
      injection h with h
      injection h with h
      obtain ⟨_, e, _⟩ := mD_inj h
      exact .inr ⟨c, _, e ▸ h1⟩
  refine ⟨Same.refl _, fun a h1 h2 => absurd h1 h2, fun a o e n nt => ?_, fun a h => ?_, fun a h => .inl (own' a h), ⟨fun a o e => ?_, w.clean, ⟨c, l, upd_same, g2, by rw [upd_ne lam]; exact g3, g4⟩, fun a h => w.off a (own' a h), fun a h => ?_⟩⟩
  · rw [upd_ne (fun z => n (.inl z))]; exact e
  · by_cases z : a = am
    · rw [z, upd_same]; simp
    · rw [upd_ne z]; exact h
  · rw [upd_ne (fun z => by rw [z, fam] at e; cases e)]
    exact w.sub _ _ e
  · by_cases z : a = am
    · rw [z]; exact ⟨_, upd_same, fun _ y => nomatch y⟩
    · rw [upd_ne z]; exact w.trk a (own' a h)
/-- something is made and left -/
theorem Stp.litter {R : Res} {m : R.M} {F H : Hp} {p : Addr} {o : HO} (w : Wf R m F H) (hp : H p = none) : Stp R m F H m F (upd H p o) := by
  have fp : F p = none := by
    cases q : F p with
    | none => rfl
    | some o => rw [w.sub _ _ q] at hp; cases hp
  have neo : ∀ a, R.own m H a → a ≠ p := fun a h e => by obtain ⟨o, q, _⟩ := w.trk a h; rw [e, hp] at q; cases q
  obtain ⟨wf, ow⟩ := w.moved (F' := F) (H' := upd H p o) (Same.refl _) (fun a u e => by
    rw [upd_ne (fun z => by rw [z, fp] at e; cases e)]
    exact w.sub _ _ e) w.clean w.off fun a h => by rw [upd_ne (neo a h)]
  exact ⟨Same.refl _, fun a h1 h2 => absurd h1 h2, fun a u e _ _ => by rw [upd_ne (ne_of_none e hp)]; exact e, fun a h => by rw [upd_ne (fun z => h (by rw [z]; exact hp))]; exact h, fun a h => .inl (ow a h), wf⟩
end
/-! ### the draw -/
def popZ : List Int → List Int
  | [] => []
  | x :: r => if x = 0 then popZ r else x :: r
def cellOf (m : DM) (t : Int) : Int := if m.cells = [] then 5 else m.cells.getD ((t * t + t / 2) % (m.cells.length : Int)).toNat 0
def mixOf (cell t : Int) (k : Int) : Int := (((cell * 40692 + t * 65539 + 7001 * t * t) % 2147483399 * 48271 + 1013 * t) % 2147483647 / 13) % k
def nextM (k : Int) : Mo DM Int := fun m =>
  if 0 < k ∧ k < 2 ^ 40 ∧ 0 ≤ m.at_ ∧ m.at_ < 2 ^ 30 ∧ m.left.length ≤ 1000 ∧ m.cells.length ≤ 1000 then
    match popZ m.left with
    | x :: r => .ok (x % k) { m with left := x / k :: r }
    | [] => .ok (mixOf (cellOf m (m.at_ + 1)) (m.at_ + 1) k) { m with left := [], at_ := m.at_ + 1 }
  else .bad
def nextG (am : Addr) : List D → Mo DM D
  | [.hdl a, .int k] => if a = am then Mo.bnd (nextM k) fun i => Mo.ret (.int i) else Mo.bad
  | _ => Mo.bad
/-! ### the state's parts in a text: i is m's slot -/
def atM (am : Addr) (i : Nat) {α : Type} (f : DM → Out DM α) : DEnv → Mo DM α := fun ρ m => match ρ.getD i none with
  | some (.hdl a) => if a = am then f m else .bad
  | _ => .bad
def mNe (am : Addr) (i : Nat) : DEnv → Mo DM Bool := atM am i fun m => .ok (!m.left.isEmpty) m
def mFst (am : Addr) (i : Nat) : DEnv → Mo DM D := atM am i fun m => match m.left with
  | x :: _ => .ok (.int x) m
  | [] => .bad
def mAt (am : Addr) (i : Nat) : DEnv → Mo DM D := atM am i fun m => .ok (.int m.at_) m
def mCells (am : Addr) (i : Nat) : DEnv → Mo DM D := atM am i fun m => .ok (.lst (m.cells.map .int)) m
def mCut (am : Addr) (i : Nat) : DEnv → Mo DM Fl := fun ρ => Mo.bnd (atM am i (fun m => .ok () { m with left := m.left.drop 1 }) ρ) fun _ => Mo.ret (.next ρ)
def mSet0 (am : Addr) (i : Nat) (e : DEnv → Mo DM D) : DEnv → Mo DM Fl := fun ρ => Mo.bnd (e ρ) fun d => Mo.bnd (atM am i (fun m => match d, m.left with
  | .int y, _ :: r => .ok () { m with left := y :: r }
  | _, _ => .bad) ρ) fun _ => Mo.ret (.next ρ)
def mSetA (am : Addr) (i : Nat) (e : DEnv → Mo DM D) : DEnv → Mo DM Fl := fun ρ => Mo.bnd (e ρ) fun d => Mo.bnd (atM am i (fun m => match d with
  | .int y => .ok () { m with at_ := y }
  | _ => .bad) ρ) fun _ => Mo.ret (.next ρ)
section
variable {am : Addr} {X : Cx} {W : WX} {i : Nat} {em : Expr}
theorem atM_use {α : Type} {f : DM → Out DM α} {σ : L2.St} {m : DM} {F H : Hp} {ρ : DEnv} {Q : α → DM → Hp → Hp → Prop} {K : PySem.W.Frag} (er : EnvR K F σ ρ) (p : Post (drawR am) K W σ m F H (atM am i f ρ m) Q) :
    σ[i]? = some (some (.ref am)) ∧ Post (drawR am) K W σ m F H (f m) Q := by
  unfold atM at p
  cases e : ρ.getD i none with
  | none => rw [e] at p; exact p.elim
  | some d =>
    rw [e] at p
    cases d with
    | hdl a =>
      dsimp only at p
      by_cases h : a = am
      · rw [if_pos h] at p
        subst h
        have hi : ρ[i]? = some (some (.hdl a)) := by
          rw [List.getD_eq_getElem?_getD] at e
          cases z : ρ[i]? with
          | none => rw [z] at e; cases e
          | some u => rw [z] at e; exact congrArg some e
        obtain ⟨v, h1, h2⟩ := er.2 i _ hi
        cases h2
        exact ⟨h1, p⟩
      · rw [if_neg h] at p; exact p.elim
    | _ => exact p.elim
theorem eqv_nil (xs : List Int) : PyData.eqv (.list (xs.map .int)) (.list []) = xs.isEmpty := by
  cases xs <;> rfl
theorem dp_ints {K : PySem.W.Frag} {H : Hp} : ∀ xs : List Int, DpAll K H (xs.map V.int) (xs.map PyData.int)
  | [] => .nil
  | x :: xs => .cons (.int x) (dp_ints xs)
theorem canAll (xs : List Int) : PyData.canLayAll0 (xs.map PyData.int) = true := by
  induction xs with
  | nil => rfl
  | cons x xs ih => simp [PyData.canLayAll0, PyData.canLay0, ih]
theorem depAll (xs : List Int) : PyData.depthAll (xs.map PyData.int) = 0 := by
  induction xs with
  | nil => rfl
  | cons x xs ih => simp [PyData.depthAll, PyData.depth, ih]
theorem shaped_ints (xs : List Int) : SeqAt.shaped (.list (xs.map .int)) = true := by
  unfold SeqAt.shaped
  simp [PyData.canLay0, canAll, PyData.depth, depAll]
theorem jb_mNe {p1 p2 p3 : Pos} {j : Nat} (hu : X.A.units + 64 < cLine) (hv : PE X em (tVar i)) : JB (drawR am) X W (.Compare (.Subscript em (.Constant (.str "left") j p1) p2) [.NotEq] [.List [] p3] p1') (mNe am i) := by
  refine wkT (pt_cmpR (op_neD hu) (pe_dget (by omega) hv pe_str (fun _ _ => rfl)) (pe_lst pa_nil) (nomark _)) fun σ H Q ⟨m, F, ρ, w, er, p⟩ => ?_
  obtain ⟨hs, p⟩ := atM_use er p
  obtain ⟨c, l, h1, h2, h3, h4, fam, fl, lam⟩ := draw_at w
  refine ⟨_, hs, am, .ref l, rfl, ?_, Nat.zero_le _, fun b hb => ?_⟩
  · have := DGet.k (k := .inr "left") h1
    rw [mD_left] at this
    exact this
  · have nlb : l ≠ b := fun e => by rw [e, hb] at h3; cases h3
    refine ⟨.list (m.left.map .int), .list [], .lst (SqL.of ((upd_ne nlb).trans h3)) (dp_ints _), .lst (SqL.of upd_same) .nil, shaped_ints _, by decide, _, rfl, ?_⟩
    rw [eqv_nil]
    exact p F _ (Stp.litter w hb)
theorem ixN_zero (n : Nat) : ixN (n + 1) 0 = some 0 := by
  unfold ixN
  rw [if_pos (Int.le_refl 0), if_pos (by omega)]
  rfl
theorem atI_zero {α : Type} (x : α) (xs : List α) : atI (x :: xs) 0 = some x := by
  unfold atI
  rw [List.length_cons, ixN_zero]
  rfl
theorem dget_left {H : Hp} {c l : Addr} {t : Int} (h1 : H am = some (.dK (mD c l t))) : DGet H am (.str "left") (some (.ref l)) := by
  have := DGet.k (k := .inr "left") h1
  rw [mD_left] at this
  exact this
theorem dget_cells {H : Hp} {c l : Addr} {t : Int} (h1 : H am = some (.dK (mD c l t))) : DGet H am (.str "cells") (some (.ref c)) := by
  have := DGet.k (k := .inr "cells") h1
  rw [mD_cells] at this
  exact this
theorem dget_at {H : Hp} {c l : Addr} {t : Int} (h1 : H am = some (.dK (mD c l t))) : DGet H am (.str "at") (some (.int t)) := by
  have := DGet.k (k := .inr "at") h1
  rw [mD_at] at this
  exact this
theorem je_mFst {p1 p2 p3 : Pos} {j j2 : Nat} (hu : X.A.units + 64 < cLine) (hv : PE X em (tVar i)) : JE (drawR am) X W (.Subscript (.Subscript em (.Constant (.str "left") j p1) p2) (.Constant (.int 0) j2 p3) p4) (mFst am i) := by
  refine wkE (pe_ix ix_list (pe_dget (by omega) hv pe_str (fun _ _ => rfl)) pe_int (fun _ _ => rfl)) fun σ H Q ⟨m, F, ρ, w, er, p⟩ => ?_
  obtain ⟨hs, p⟩ := atM_use er p
  obtain ⟨c, l, h1, h2, h3, h4, fam, fl, lam⟩ := draw_at w
  cases e : m.left with
  | nil => rw [e] at p; exact p.elim
  | cons x r =>
    rw [e] at p h3
    exact ⟨_, hs, am, .ref l, rfl, dget_left h1, l, _, 0, .int x, rfl, rfl, SqL.of h3, atI_zero _ _, p F H (Stp.refl w) _ (.int x)⟩
theorem je_mAt {p1 p2 : Pos} {j : Nat} (hu : X.A.units + 64 < cLine) (hv : PE X em (tVar i)) : JE (drawR am) X W (.Subscript em (.Constant (.str "at") j p1) p2) (mAt am i) := by
  refine wkE (pe_dget (by omega) hv pe_str (fun _ _ => rfl)) fun σ H Q ⟨m, F, ρ, w, er, p⟩ => ?_
  obtain ⟨hs, p⟩ := atM_use er p
  obtain ⟨c, l, h1, h2, h3, h4, fam, fl, lam⟩ := draw_at w
  exact ⟨_, hs, am, .int m.at_, rfl, dget_at h1, p F H (Stp.refl w) _ (.int _)⟩
theorem je_mCells {p1 p2 : Pos} {j : Nat} (hu : X.A.units + 64 < cLine) (hv : PE X em (tVar i)) : JE (drawR am) X W (.Subscript em (.Constant (.str "cells") j p1) p2) (mCells am i) := by
  refine wkE (pe_dget (by omega) hv pe_str (fun _ _ => rfl)) fun σ H Q ⟨m, F, ρ, w, er, p⟩ => ?_
  obtain ⟨hs, p⟩ := atM_use er p
  obtain ⟨c, l, h1, h2, h3, h4, fam, fl, lam⟩ := draw_at w
  exact ⟨_, hs, am, .ref c, rfl, dget_cells h1, p F H (Stp.refl w) _ (.lst h2 (RepL.ints _))⟩
theorem cut1 (xs : List Int) : cutV (xs.map V.int) (some 1) none = (xs.drop 1).map V.int := by
  unfold cutV
  rw [HT.sIx_none]
  have e : HT.sIx (xs.map V.int).length 0 (some 1) = min 1 (xs.map V.int).length := HT.sIx_nat _ _ 1
  rw [e, List.map_drop]
  cases xs with
  | nil => rfl
  | cons x r =>
    simp
    exact List.take_of_length_le (by simp)
theorem js_mCut {p1 p2 p3 p4 p5 p6 p7 pos : Pos} {j j2 j3 : Nat} (hu : X.A.units + 64 < cLine) (hv : ∀ {em}, em = .Name "m" p7 ∨ em = .Name "m" p6 → PE X em (tVar i)) (hs : swapsWith (.Subscript (.Subscript (.Name "m" p7) (.Constant (.str "left") j2 p3) p4) (.Slice (some (.Constant (.int 1) j3 p5)) none none p8) p9) (some (.Subscript (.Name "m" p6) (.Constant (.str "left") j p1) p2)) pos.line X.env = pure false) :
    JS (drawR am) X W (.Assign [.Subscript (.Name "m" p6) (.Constant (.str "left") j p1) p2] (.Subscript (.Subscript (.Name "m" p7) (.Constant (.str "left") j2 p3) p4) (.Slice (some (.Constant (.int 1) j3 p5)) none none p8) p9) pos) (mCut am i) := by
  refine wkS (ps_dput (by omega) (hv (.inr rfl)) pe_str (pe_slice sl_list (pe_dget (by omega) (hv (.inl rfl)) pe_str (fun _ _ => rfl)) (po_some pe_int) po_none) hs) fun E σ H ⟨m, F, ρ, w, er, p⟩ => ?_
  obtain ⟨hs, p⟩ := atM_use er p.split
  obtain ⟨c, l, h1, h2, h3, h4, fam, fl, lam⟩ := draw_at w
  refine ⟨_, hs, am, .ref l, rfl, dget_left h1, 1, rfl, l, _, rfl, SqL.of h3, fun b hb => ?_⟩
  have amb : am ≠ b := fun e => by rw [e, hb] at h1; cases h1
  refine ⟨_, hs, am, _, rfl, DPut.k (k := .inr "left") ((upd_ne amb).trans h1) (by show 3 < sizeLine; decide), ?_⟩
  rw [mD_putL, cut1]
  have st := draw_left (xs := m.left.drop 1) w h1 hb
  exact Post.ret st.wf (p F _ st) σ er
theorem js_mSet0 {e : Expr} {fe : DEnv → Mo DM D} {p1 p2 p3 p4 pos : Pos} {j j2 : Nat} (hu : X.A.units + 64 < cLine) (hv : PE X em (tVar i)) (he : JE (drawR am) X W e fe)
    (hs : swapsWithSole [.Subscript (.Subscript em (.Constant (.str "left") j p1) p2) (.Constant (.int 0) j2 p3) p4] e pos.line X.env = pure false := by rfl)
    (hw : swappedStores [.Subscript (.Subscript em (.Constant (.str "left") j p1) p2) (.Constant (.int 0) j2 p3) p4] e X.env = pure none := by rfl) :
    JS (drawR am) X W (.Assign [.Subscript (.Subscript em (.Constant (.str "left") j p1) p2) (.Constant (.int 0) j2 p3) p4] e pos) (mSet0 am i fe) := by
  refine wkS (ps_asg he (pg_sub (pe_dget (by omega) hv pe_str (fun _ _ => rfl)) pe_int set_list) hs hw) fun E σ H ⟨m, F, ρ, w, er, p⟩ => ?_
  refine ⟨m, F, ρ, w, er, p.split.mono fun d m1 F1 H1 s1 p1 v rv => ?_⟩
  obtain ⟨hs, p⟩ := atM_use (er.up s1.up) p1.split
  obtain ⟨c, l, h1, h2, h3, h4, fam, fl, lam⟩ := draw_at s1.wf
  cases d with
  | int y =>
    cases rv
    cases e : m1.left with
    | nil => rw [e] at p; exact p.elim
    | cons x r =>
      rw [e] at p h3
      refine ⟨_, hs, am, .ref l, rfl, dget_left h1, l, _, 0, 0, rfl, rfl, h3, ixN_zero _, ?_⟩
      have st := draw_set (xs := y :: r) s1.wf h1
      exact Post.ret st.wf (p F1 _ st) σ (er.up s1.up)
  | _ => exact p.elim
theorem js_mSetA {e : Expr} {fe : DEnv → Mo DM D} {p1 p2 pos : Pos} {j : Nat} (hu : X.A.units + 64 < cLine) (hv : PE X em (tVar i)) (he : JE (drawR am) X W e fe)
    (hs : swapsWith e (some (.Subscript em (.Constant (.str "at") j p1) p2)) pos.line X.env = pure false) : JS (drawR am) X W (.Assign [.Subscript em (.Constant (.str "at") j p1) p2] e pos) (mSetA am i fe) := by
  refine wkS (ps_dput (by omega) hv pe_str he hs) fun E σ H ⟨m, F, ρ, w, er, p⟩ => ?_
  refine ⟨m, F, ρ, w, er, p.split.mono fun d m1 F1 H1 s1 p1 v rv => ?_⟩
  obtain ⟨hs, p⟩ := atM_use (er.up s1.up) p1.split
  obtain ⟨c, l, h1, h2, h3, h4, fam, fl, lam⟩ := draw_at s1.wf
  cases d with
  | int y =>
    cases rv
    refine ⟨_, hs, am, _, rfl, DPut.k (k := .inr "at") h1 (by show 3 < sizeLine; decide), ?_⟩
    rw [mD_putA]
    have st := draw_cnt (t := y) s1.wf h1
    exact Post.ret st.wf (p F1 _ st) σ (er.up s1.up)
  | _ => exact p.elim
end
/-! ### the draw's text, as it is read -/
def b_next (am : Addr) : DEnv → Mo DM Fl :=
  sSeq (sWhile 1001 (bAnd (mNe am 0) (bOf (dBin eqF (mFst am 0) (dC (.int 0))))) (mCut am 0))
  (sSeq (sIf (mNe am 0) (sSeq (sAsg (.one 2) (mFst am 0)) (sSeq (mSet0 am 0 (dBin divF (dVar 2) (dVar 1))) (sRet (dBin modF (dCall intF (dCons (dVar 2) dNil)) (dVar 1))))) sNil)
  (sSeq (sPar 3 4 (dCons (dBin addF (mAt am 0) (dC (.int 1))) (dCons (mCells am 0) dNil)))
  (sSeq (mSetA am 0 (dVar 3))
  (sSeq (sAsg (.one 5) (dIf (bOf (dBin neF (dVar 4) (dLst dNil))) (dCall intF (dCons (dBin ixF (dVar 4) (dBin modF (dCall intF (dCons (dBin addF (dBin mulF (dVar 3) (dVar 3)) (dBin divF (dVar 3) (dC (.int 2)))) dNil)) (dCall lenF (dCons (dVar 4) dNil)))) dNil)) (dC (.int 5))))
  (sSeq (sAsg (.one 6) (dBin modF (dCall intF (dCons (dBin addF (dBin addF (dBin mulF (dVar 5) (dC (.int 40692))) (dBin mulF (dVar 3) (dC (.int 65539)))) (dBin mulF (dBin mulF (dC (.int 7001)) (dVar 3)) (dVar 3))) dNil)) (dC (.int 2147483399))))
  (sRet (dBin modF (dCall intF (dCons (dBin divF (dBin modF (dCall intF (dCons (dBin addF (dBin mulF (dVar 6) (dC (.int 48271))) (dBin mulF (dC (.int 1013)) (dVar 3))) dNil)) (dC (.int 2147483647))) (dC (.int 13))) dNil)) (dVar 1))))))))
end DE

/-! DE9: what the draw's text computes. -/
namespace DE
open PySem PySem.Spec PyProof.Rows L2
theorem eqF_int (x y : Int) : eqF (.int x) (.int y) = some (.bl (x == y)) := rfl
theorem getD_set_self {i : Nat} {ρ : DEnv} {d : Option D} (h : i < ρ.length) : (ρ.set i d).getD i none = d := by
  rw [List.getD_eq_getElem?_getD, List.getElem?_set_self h]; rfl
/-- the loop drops the noughts ahead -/
theorem loop_popZ {am : Addr} {ρ : DEnv} (h : ρ.getD 0 none = some (.hdl am)) (cells : List Int) (t : Int) : ∀ (n : Nat) (xs : List Int), xs.length < n →
    wLoop (bAnd (mNe am 0) (bOf (dBin eqF (mFst am 0) (dC (.int 0))))) (mCut am 0) n ρ ⟨cells, xs, t⟩ = .ok (.next ρ) ⟨cells, popZ xs, t⟩
  | 0, xs, hl => absurd hl (Nat.not_lt_zero _)
  | n + 1, [], _ => by
    simp only [wLoop, bAnd, mNe, atM, h, Mo.bnd, Mo.ret]
    rfl
  | n + 1, x :: r, hl => by
    have ih := loop_popZ h cells t n r (by simpa using hl)
    by_cases hx : x = 0
    · subst hx
      simp only [wLoop, bAnd, mNe, mFst, mCut, atM, h, Mo.bnd, Mo.ret, bOf, dBin, dC, eqF_int, Mo.opt, asB, popZ, if_true, List.isEmpty_cons, Bool.not_false, beq_self_eq_true, List.drop_succ_cons, List.drop_zero]
      exact ih
    · have hx' : (x == 0) = false := by simpa using hx
      simp only [wLoop, bAnd, mNe, mFst, mCut, atM, h, Mo.bnd, Mo.ret, bOf, dBin, dC, eqF_int, Mo.opt, asB, popZ, if_true, List.isEmpty_cons, Bool.not_false, hx', hx, if_false, Bool.false_eq_true]
abbrev nN : List Str := ["m", "many", "rest", "at", "bits", "cell", "blend"]
theorem log2_lt40 {k : Int} (h0 : 0 < k) (h : k < 2 ^ 40) : k.natAbs.log2 < 9000 := by
  have h1 : k.natAbs < 2 ^ 9000 := Nat.lt_of_lt_of_le (by omega : k.natAbs < 2 ^ 40) (Nat.pow_le_pow_right (by decide) (by decide))
  exact (Nat.log2_lt (by omega)).mpr h1
theorem neF_nil (cs : List Int) : neF (.lst (cs.map .int)) (.lst []) = some (.bl (!cs.isEmpty)) := by
  have e : ∀ cs : List Int, toPyL (cs.map D.int) = some (cs.map PyData.int) := by
    intro cs
    induction cs with
    | nil => rfl
    | cons c cs ih => simp [toPyL, toPy, ih]
  unfold neF eqB
  simp only [toPy, toPyL, e, Option.map_some]
  rw [if_pos ⟨shaped_ints cs, by decide⟩]
  simp only [Option.map_some]
  rw [show PyData.eqv (.list (cs.map .int)) (.list []) = cs.isEmpty from eqv_nil cs]
theorem mulF_l {i j : Int} (h : i.natAbs < 2 ^ 64) : mulF (.int i) (.int j) = some (.int (i * j)) := if_pos (.inl h)
theorem mulF_r {i j : Int} (h : j.natAbs < 2 ^ 64) : mulF (.int i) (.int j) = some (.int (i * j)) := if_pos (.inr h)
theorem divF_int {i j : Int} (h : 0 < j) (h2 : j.natAbs.log2 < 9000) : divF (.int i) (.int j) = some (.int (i / j)) := if_pos ⟨h, h2⟩
theorem modF_int {i j : Int} (h : 0 < j) : modF (.int i) (.int j) = some (.int (i % j)) := if_pos h
theorem addF_int {i j : Int} : addF (.int i) (.int j) = some (.int (i + j)) := rfl
theorem intF_int {i : Int} : intF [.int i] = some (.int i) := rfl
theorem ixN_in {n : Nat} {i : Int} (h0 : 0 ≤ i) (h : i < n) : ixN n i = some i.toNat := by
  unfold ixN
  rw [if_pos h0, if_pos h]
theorem ixF_ints {cs : List Int} {z : Int} (h : cs ≠ []) : ixF (.lst (cs.map .int)) (.int (z % (cs.length : Int))) = some (.int (cs.getD (z % (cs.length : Int)).toNat 0)) := by
  have hl : 0 < cs.length := List.length_pos_iff.mpr h
  have h0 : 0 ≤ z % (cs.length : Int) := Int.emod_nonneg _ (by omega)
  have h1 : z % (cs.length : Int) < cs.length := Int.emod_lt_of_pos _ (by omega)
  show atI (cs.map D.int) _ = _
  rw [atI_map]
  unfold atI
  rw [ixN_in h0 h1]
  show (cs[(z % (cs.length : Int)).toNat]?).map D.int = _
  have h2 : (z % (cs.length : Int)).toNat < cs.length := by omega
  rw [List.getElem?_eq_getElem h2, List.getD_eq_getElem?_getD, List.getElem?_eq_getElem h2]
  rfl
theorem lenF_lst (xs : List D) : lenF [.lst xs] = some (.int xs.length) := rfl
theorem next_eq {am : Addr} {k : Int} {m : DM} (h1 : 0 < k) (h2 : k < 2 ^ 40) (h3 : 0 ≤ m.at_) (h4 : m.at_ < 2 ^ 30) (h5 : m.left.length ≤ 1000) (h6 : m.cells.length ≤ 1000) :
    fin (b_next am (startD nN [.hdl am, .int k])) m = nextG am [.hdl am, .int k] m := by
  obtain ⟨cells, left, t⟩ := m
  have hk := log2_lt40 h1 h2
  simp only at h3 h4 h5 h6
  have eG : nextG am [.hdl am, .int k] = Mo.bnd (nextM k) fun i => Mo.ret (.int i) := if_pos rfl
  rw [eG]
  have eM : nextM k ⟨cells, left, t⟩ = (match popZ left with
    | x :: r => .ok (x % k) ⟨cells, x / k :: r, t⟩
    | [] => .ok (mixOf (cellOf ⟨cells, left, t⟩ (t + 1)) (t + 1) k) ⟨cells, [], t + 1⟩) := if_pos ⟨h1, h2, h3, h4, h5, h6⟩
  show fin (b_next am [some (.hdl am), some (.int k), none, none, none, none, none]) ⟨cells, left, t⟩ = _
  have hT : (t + 1).natAbs < 2 ^ 64 := by omega
  simp only [fin, b_next, sSeq, sWhile, Mo.bnd, eM]
  rw [loop_popZ (by rfl) cells t 1001 left (by omega)]
  dsimp only
  cases e : popZ left with
  | cons x r =>
    simp [sIf, mNe, mFst, mSet0, atM, sSeq, sAsg, sRet, dBin, dVar, dCall, dCons, dNil, bindT, Mo.bnd, Mo.ret, Mo.opt, modF_int h1, divF_int h1 hk, intF]
  | nil =>
    simp only [sIf, mNe, atM, Mo.bnd, Mo.ret, List.getD_cons_zero, if_true, List.isEmpty_nil, Bool.not_true, Bool.false_eq_true, if_false, sNil, sPar, dCons, dBin, mAt, mCells, dC, dNil, addF_int, Mo.opt, List.set_cons_succ, List.set_cons_zero, mSetA, dVar, List.getD_cons_succ]
    have hcell : ∀ (ρ : DEnv) (m : DM), ρ.getD 3 none = some (.int (t + 1)) → ρ.getD 4 none = some (.lst (cells.map .int)) → (dIf (bOf (dBin neF (dVar 4) (dLst dNil))) (dCall intF (dCons (dBin ixF (dVar 4) (dBin modF (dCall intF (dCons (dBin addF (dBin mulF (dVar 3) (dVar 3)) (dBin divF (dVar 3) (dC (.int 2)))) dNil)) (dCall lenF (dCons (dVar 4) dNil)))) dNil)) (dC (.int 5))) ρ m = .ok (.int (cellOf ⟨cells, left, t⟩ (t + 1))) m := by
      intro ρ m e3 e4
      simp only [dIf, bOf, dBin, dVar, e3, e4, dLst, dNil, Mo.bnd, Mo.ret, Mo.opt, List.length_nil, Nat.zero_le, if_true, neF_nil, asB]
      by_cases hc : cells = []
      · subst hc
        simp [cellOf, dC, Mo.ret]
      · have hne : (!cells.isEmpty) = true := by cases cells <;> simp_all
        have hl : (0 : Int) < (cells.length : Int) := by
          have := List.length_pos_iff.mpr hc
          omega
        rw [hne]
        simp only [if_true, dCall, dCons, dBin, dVar, e3, e4, dC, dNil, Mo.bnd, Mo.ret, Mo.opt, mulF_r hT, divF_int (show (0 : Int) < 2 by decide) (show (2 : Int).natAbs.log2 < 9000 by decide), addF_int, intF_int, lenF_lst, List.length_map, modF_int hl, ixF_ints hc, cellOf, hc, if_false]
    simp only [sAsg, Mo.bnd]
    rw [hcell _ _ rfl rfl]
    simp only [Mo.opt, Mo.ret, bindT, dBin, dCall, dCons, dNil, dVar, dC, Mo.bnd, List.getD_cons_succ, List.getD_cons_zero, List.set_cons_succ, List.set_cons_zero, sRet, mulF_r hT, mulF_r (show (40692 : Int).natAbs < 2 ^ 64 by decide), mulF_r (show (65539 : Int).natAbs < 2 ^ 64 by decide), mulF_r (show (48271 : Int).natAbs < 2 ^ 64 by decide), addF_int, intF_int, modF_int (show (0 : Int) < 2147483399 by decide),
      modF_int (show (0 : Int) < 2147483647 by decide), divF_int (show (0 : Int) < 13 by decide) (show (13 : Int).natAbs.log2 < 9000 by decide), modF_int h1, mixOf]
end DE

/-! DE10: a law's end, from its def's contract. -/
namespace DE
open PySem PySem.Spec PyProof.Rows L2
/-- what the law's def must keep: called with a list of ints it tells True -/
def spLaw (K : PySem.W.Frag) (n : Nat) : Sp := fun vs H Q _ => ∃ (a : Addr) (ns : List Int), vs = [.ref a] ∧ SqL K H a (ns.map V.int) ∧ ns.length ≤ n ∧ (∀ b ps, H b ≠ some (.tbl ps)) ∧ ∀ H', Q (.bl true) H'
theorem cx_top {P : Program} {w : World} {H : Hp} {s : Shared} {e : Value} {s' : Shared} (h : L2.CX P w [] H s (fun _ _ _ => False) e s') : False := by
  obtain ⟨_, _, _, _, _, _, _, _, _, _, _, _, z⟩ := h
  exact z
section
variable {P : Program} {w : World} {K : PySem.W.Frag} {mg mb : Str → Option Value} {k n : Nat} {fa a : Addr} {fd : FuncData} {x : Str} {s₁ : Shared} {vs : List Value} {ns : List Int}
theorem law_run (KX : K.In s₁.heap) (hns : s₁.heap.Ns mainGlobals mg) (hb : s₁.heap.Ns builtinsNs mb) (hbb : ∀ x : Str, x ≠ "__name__" → mb x = bootBuiltins x) (hlim : s₁.heap.NoLimit) (hg : s₁.gens = #[])
    (ha : s₁.heap.get? a = some { cls := .type "list", data := .seq vs.toArray }) (hi : IntsAre vs ns) (hl : ns.length ≤ n) (hn : n ≤ sizeLine) (hr : Room k callerA)
    (F : ∀ base : Heap, K.In base → base.Ns mainGlobals mg → FnG P w K mg base k fa fd [x] (spLaw K n)) (hbind : ∀ (s : Shared) (u : Value), BindsTo s fd ⟨[u], []⟩ [(x, u)]) :
    codeAny (model P w) callerA (.call (.ref fa) ⟨[.ref a], []⟩) (fun r s' => r = .ok (.ret (.bool true)) ∧ OldK s₁.heap s'.heap ∧ s'.os = s₁.os ∧ AllBare s'.gens) s₁ := by
  have rv := vals_ints hi
  have lz : ns.length ≤ sizeLine := Nat.le_trans hl hn
  let OB : Obj := { cls := .type "list", data := .seq vs.toArray }
  let H : Hp := fun b => if b = a ∧ K.lookup a = none then some (.frz OB (.lst (ns.map V.int))) else none
  have hH : ∀ b u, H b = some u → b = a ∧ K.lookup a = none ∧ u = .frz OB (.lst (ns.map V.int)) := fun b u e => by
    by_cases c : b = a ∧ K.lookup a = none
    · have e' : some (HO.frz OB (.lst (ns.map V.int))) = some u := (if_pos c).symm.trans e
      exact ⟨c.1, c.2, (Option.some.inj e').symm⟩
    · have e' : (none : Option HO) = some u := (if_neg c).symm.trans e
      cases e'
  have hok : HOk P w H s₁.heap := fun b u e => by
    obtain ⟨rfl, _, rfl⟩ := hH b u e
    refine ⟨ha, ?_, vs, _, rv, ha⟩
    rw [List.length_map]
    exact lz
  have hS : SqL K H a (ns.map V.int) := by
    cases hk : K.lookup a with
    | none => exact .inl (.inr ⟨OB, if_pos ⟨rfl, hk⟩⟩)
    | some o =>
      have e := (KX a o hk).symm.trans ha
      cases e
      have lv := hi.length
      exact .inr ⟨_, vs.toArray, _, hk, rfl, rfl, rfl, by rw [List.size_toArray, lv]; exact lz, by simpa using rv⟩
  have free : ∀ {b : Addr} {o : Obj} {es : Array DictEntry} {ep : Nat}, s₁.heap.get? b = some o → o.data = .dict es ep → H b = none := fun {b o es ep} e d => by
    cases q : H b with
    | none => rfl
    | some u =>
      obtain ⟨rfl, _, _⟩ := hH b u q
      rw [ha] at e
      cases e
      cases d
  have ns2 : ∀ {b : Addr} {m : Str → Option Value}, s₁.heap.Ns b m → (hidT s₁.heap H).Ns b m := fun {b m} ⟨o, es, ep, e, d, r⟩ => ⟨o, es, ep, hidT_get e (free e d), d, r⟩
  have kin : K.In (hidT s₁.heap H) := fun b o e => hidT_get (KX b o e) (by
    cases q : H b with
    | none => rfl
    | some u =>
      obtain ⟨rfl, z, _⟩ := hH b u q
      rw [z] at e
      cases e)
  have md : Mod K mg (hidT s₁.heap H) := ⟨kin, ns2 hns, ⟨mb, ns2 hb, hbb⟩, let ⟨mc, h1, h2⟩ := hlim; ⟨mc, ns2 h1, h2⟩⟩
  have e0 : Env0 P w K mg (hidT s₁.heap H) callerA [] s₁ H :=
    { frames := rfl, mod := md, bs := fun b o e => of_hidT e, bsz := Nat.le_of_eq (hidT_size _ _), funs := trivial, frf := (fun b hb => absurd (show b ∈ ([] : List Addr) from hb) (by simp)), hok := hok, bare := .of_eq hg }
  refine codeAny_mono ((F _ kin (ns2 hns)).run callerA [] s₁ H ⟨[.ref a], []⟩ [.ref a] [.ref a] (fun v _ => v = .bl true) (fun _ _ _ => False) hr rfl e0 (hbind s₁ (.ref a)) (.cons rfl .nil) ⟨a, ns, rfl, hS, hl, fun b ps z => ?_, fun _ => rfl⟩) fun r s' h => ?_
  · obtain ⟨_, _, z⟩ := hH b _ z
    cases z
  · match r, h with
    | .error e, h => exact (cx_top h).elim
    | .ok (.ret u), h =>
      obtain ⟨v, H', os, bare, un, hok', r', rfl⟩ := h
      obtain rfl : u = Value.bool true := r'
      refine ⟨rfl, OldK.of_keep fun b o e => ?_, os, bare⟩
      cases q : H b with
      | none => exact un.keep b o e q (fun z => nomatch z) (fun z => nomatch z)
      | some u =>
        obtain ⟨rfl, _, rfl⟩ := hH b u q
        obtain ⟨e2, _⟩ := hok' b _ (un.frzs b OB _ q)
        rw [ha] at e
        cases e
        exact e2
theorem walk_law {l : PySem.W.OpenLaw} {q : Program} {loose : List Str} {XP : (Str → Option Value) → Heap → Prop} {YP : World → Heap → Prop} {d : DefRec} {K : Params → PySem.W.Frag} (hn : l.most = some n) (hn2 : n ≤ sizeLine) (hdf : d.params.defaults = []) (hr : Room k callerA)
    (hY : ∀ (w : World) (h : Heap), YP w h → (K w.params).In h)
    (F : ∀ (w : World) (mg : Str → Option Value) (fa : Addr) (h : Heap), (K w.params).In h → h.Ns mainGlobals mg → mg d.name = some (.ref fa) → ∃ fd : FuncData, (∀ (s : Shared) (u : Value), BindsTo s fd ⟨[u], []⟩ [(x, u)]) ∧
      ∀ base : Heap, (K w.params).In base → base.Ns mainGlobals mg → FnG l.prog w (K w.params) mg base k fa fd [x] (spLaw (K w.params) n)) :
    PySem.W.WalkO q loose XP YP l.row.toRowW d [] (fun f vs => PySem.call f vs) := by
  refine Att.attach_call hn hdf ?_
  intro w s₀ s₁ mg mb fa o pm cd doc a vs ns G Y ho hd hcd hmg hobj hints hlen hg
  have KX := hY w _ Y
  obtain ⟨fd, hb, hF⟩ := F w mg fa _ KX G.T.g hmg
  exact law_run KX G.T.g G.T.b G.T.builtins G.T.nolimit hg hobj hints hlen hn2 hr hF hb
end
/-! ### from data to the law's word -/
/-- the state a law begins with -/
theorem wf_begin {K : PySem.W.Frag} {H : Hp} (h : ∀ b ps, H b ≠ some (.tbl ps)) : Wf unitR () H H := ⟨Same.refl _, h, True.intro, fun _ z => z.elim, fun _ z => z.elim⟩
theorem law_of {P : Program} {w : World} {K : PySem.W.Frag} {mg : Str → Option Value} {base : Heap} {k n : Nat} {f : Addr} {fd : FuncData} {x : Str} {g : List D → Mo Unit D} (F : FnG P w K mg base k f fd [x] (spD unitR K 1 g)) (h : ∀ ns : List Int, ns.length ≤ n → ∃ m, g [.scr ns] () = .ok (.bl true) m) :
    FnG P w K mg base k f fd [x] (spLaw K n) := F.imp fun vs H Q E hs => by
  obtain ⟨a, ns, rfl, hS, hl, ht, q⟩ := hs
  obtain ⟨m, e⟩ := h ns hl
  refine ⟨rfl, (), H, [.scr ns], wf_begin (K := K) ht, .cons (.scr hS) .nil, ?_⟩
  rw [e]
  intro F' H' st v rv
  rw [rep_bl rv]
  exact q H'
/-! ### the draws begin -/
/-- {"cells": list(s), "left": [c for c in s if c >= 10 ** 18], "at": 0} -/
def begun (ns : List Int) : DM := ⟨ns, ns.filter (fun c => decide (10 ^ 18 ≤ c)), 0⟩
end DE

/-! DE11: the draws begin; a law that draws. -/
namespace DE
open PySem PySem.Spec PyProof.Rows L2
def b_cells : DEnv → Mo Unit D := dCall listF (dCons (dVar 0) dNil)
def b_left : DEnv → Mo Unit (List D) := cL (.one 1) [1] (dSeqI (dVar 0)) (bOf (dBin geF (dVar 1) (dBin powF (dC (.int 10)) (dC (.int 18))))) (dVar 1)
def t_begun (K : PySem.W.Frag) : TS := tRet (tDisp [(tC (.str "cells"), tD unitR K noW b_cells), (tC (.str "left"), tN unitR K noW b_left), (tC (.str "at"), tC (.int 0))])
theorem geF_int (i j : Int) : geF (.int i) (.int j) = some (.bl (decide (j ≤ i))) := rfl
theorem pow18 : powF (.int 10) (.int 18) = some (.int (10 ^ 18)) := by
  show (if (0:Int) ≤ 18 ∧ (18:Int) ≤ 1000 ∧ (10:Int).natAbs < 2 ^ 64 then some (D.int (10 ^ (18:Int).toNat)) else none) = _
  rw [if_pos (by decide)]
  rfl
theorem left_loop (ρ : DEnv) (hl : 1 < ρ.length) : ∀ ns : List Int, cLoop (.one 1) (bOf (dBin geF (dVar 1) (dBin powF (dC (.int 10)) (dC (.int 18))))) (dVar 1) ρ (ns.map .int) () = .ok ((ns.filter fun c => decide (10 ^ 18 ≤ c)).map .int) ()
  | [] => rfl
  | x :: r => by
    have ih := left_loop ρ hl r
    have e1 : (ρ.set 1 (some (D.int x))).getD 1 none = some (.int x) := getD_set_self hl
    by_cases c : (10 : Int) ^ 18 ≤ x
    · simp only [List.map_cons, cLoop, bindT, Mo.opt, Mo.bnd, Mo.ret, nox, bOf, dBin, dVar, e1, dC, pow18, geF_int, asB, decide_eq_true c, if_true, ih, List.filter_cons]
    · simp only [List.map_cons, cLoop, bindT, Mo.opt, Mo.bnd, Mo.ret, nox, bOf, dBin, dVar, e1, dC, pow18, geF_int, asB, decide_eq_false c, if_false, Bool.false_eq_true, ih, List.filter_cons]
theorem repL_ints {K : PySem.W.Frag} {F : Hp} : ∀ {ns : List Int} {vs : List V}, RepL K F vs (ns.map D.int) → vs = ns.map V.int
  | [], _, r => by cases r; rfl
  | n :: ns, _, r => by
    cases r with
    | cons r1 r2 =>
      have := rep_int r1
      subst this
      rw [repL_ints r2]
      rfl
def spBegun (K : PySem.W.Frag) : Sp := fun vs H Q _ => ∃ (F : Hp) (a : Addr) (ns : List Int), vs = [.ref a] ∧ Wf unitR () F H ∧ SqL K F a (ns.map V.int) ∧ ns.length ≤ 1000 ∧ ∀ am F' H', Same F F' → Wf (drawR am) (begun ns) F' H' → Q (.ref am) H'
theorem merge_mD (c l : Addr) (t : Int) : mergeK [] (mD c l t) = mD c l t := by
  show putK (putK (putK [] (Sum.inr "cells" : Key) (.ref c)) (Sum.inr "left" : Key) (.ref l)) (Sum.inr "at" : Key) (.int t) = _
  simp [putK, mD, ne_lc, ne_ac, ne_al]
theorem pure_begun {K : PySem.W.Frag} (vs : List V) (H : Hp) (Q : VK) (E : XK) (h : spBegun K vs H Q E) : t_begun K { nx := fun _ H' => Q .non H', rt := Q } (L2.start ["script", "cell"] vs) H := by
  obtain ⟨F, a, ns, rfl, w, hS, hl, k⟩ := h
  intro p hp
  have w1 := (Stp.litter (o := .dK []) w hp).wf
  have fp : F p = none := by
    cases q : F p with
    | none => rfl
    | some o => rw [w.sub _ _ q] at hp; cases hp
  have er : EnvR K F (L2.start ["script", "cell"] [.ref a]) (startD ["script", "cell"] [.scr ns]) := startD_rep (.cons (.scr hS) .nil)
  refine ⟨(), F, _, w1, er, ?_⟩
  show Post unitR K noW _ () F _ (Out.ok (D.lst (ns.map D.int)) ()) _
  intro F2 H2 s2 v rv
  obtain ⟨c, xs, rfl, hc, lc⟩ := rep_lst rv
  have ex := repL_ints lc
  subst ex
  have hz : (ns.map D.int).length ≤ sizeLine := by
    rw [List.length_map]
    exact Nat.le_trans hl (by decide)
  have ecl : b_left (startD ["script", "cell"] [.scr ns]) () = .ok ((ns.filter fun c => decide (10 ^ 18 ≤ c)).map .int) () := by
    show Mo.bnd (fun m => Out.ok (ns.map D.int) m) (fun ds => Mo.bnd (Mo.opt (if ds.length ≤ sizeLine then some () else none)) fun _ => cLoop (.one 1) _ _ (wipeD [some (D.scr ns), none] [1]) ds) () = _
    simp only [Mo.bnd, if_pos hz, Mo.opt, Mo.ret]
    refine left_loop (wipeD [some (D.scr ns), none] [1]) ?_ ns
    show 1 < 2
    decide
  refine ⟨(), F2, _, s2.wf, er.up s2.up, ?_⟩
  rw [ecl]
  intro F3 H3 s3 l us hl3 rus
  have eu := repL_ints rus
  subst eu
  -- what stands where
  have hp1 : upd H p (.dK []) p = some (.dK []) := upd_same
  have no : ∀ {m : Unit} {H : Hp} {b : Addr}, ¬ unitR.own m H b := fun z => z
  have hp2 := s2.keep p _ hp1 no (fun _ z => nomatch z)
  have hp3 := s3.keep p _ hp2 no (fun _ z => nomatch z)
  have npl : p ≠ l := fun e => by rw [← e, hp3] at hl3; cases hl3
  have fp2 : F2 p = none := by
    cases q : F2 p with
    | none => rfl
    | some o =>
      have z := s2.fresh p fp (by rw [q]; simp)
      rw [hp1] at z; cases z
  have fp3 : F3 p = none := by
    cases q : F3 p with
    | none => rfl
    | some o =>
      have z := s3.fresh p fp2 (by rw [q]; simp)
      rw [hp2] at z; cases z
  have fl3 : F3 l = none := by
    cases q : F3 l with
    | none => rfl
    | some o => rw [s3.wf.sub _ _ q] at hl3; cases hl3
  refine ⟨by rw [upd_ne npl]; exact hp3, mD c l 0, rfl, by show 3 ≤ 15; decide, ?_⟩
  rw [merge_mD]
  refine k p F3 _ (s2.up.trans s3.up) ⟨fun b o e => ?_, s3.wf.clean, ⟨c, l, upd_same, s3.up _ _ hc, by rw [upd_ne npl.symm]; exact upd_same, hl⟩, fun b hb => ?_, fun b hb => ?_⟩
  · have h1 : b ≠ p := fun z => by rw [z, fp3] at e; cases e
    have h2 : b ≠ l := fun z => by rw [z, fl3] at e; cases e
    rw [upd_ne h1, upd_ne h2]
    exact s3.wf.sub _ _ e
  · rcases hb with rfl | ⟨c', t', hb⟩
    · exact fp3
    · rw [upd_same] at hb
      injection hb with hb
      injection hb with hb
      rw [← (mD_inj hb).2.1]
      exact fl3
  · rcases hb with rfl | ⟨c', t', hb⟩
    · exact ⟨_, upd_same, fun _ z => nomatch z⟩
    · rw [upd_same] at hb
      injection hb with hb
      injection hb with hb
      rw [← (mD_inj hb).2.1, upd_ne npl.symm]
      exact ⟨_, upd_same, fun _ z => nomatch z⟩
/-! ### a law: m = _law_begun(script), then the rest -/
section
variable {P : Program} {w : World} {K : PySem.W.Frag} {mg : Str → Option Value} {base : Heap}
def tBegin (K : PySem.W.Frag) (j : Nat) (rest : TS) : TS := tSeq (tAsg (tCall (spBegun K) [] E0 (tCons (tVar 0) tNil)) (gName j)) rest
/-- whatever the state's address -/
theorem pss_all {X : Cx} {st : List Stmt} {t : Addr → TS} (h : ∀ am, PSs X st (t am)) : PSs X st (fun D σ H => ∃ am, t am D σ H) := ⟨fun pins s σ H D I ⟨am, q⟩ => (h am).run pins s σ H D I q⟩
theorem law_draws {x qual : Str} {st : Stmt} {f : Addr} {fd : FuncData} {N : List Str} {k n : Nat} {fr : Addr → DEnv → Mo DM Fl} (F : Fun K x qual st f fd) (S : FnScope N ["script"] (defScope st)) (hn : n ≤ 1000) (h1 : 1 < N.length)
    (hbody : ∀ (cdv : Value) (A : Around) (outer : List Env) (s : Shared) (H : Hp) (E : XK), Room k (A.deeper (envOfC qual (defScope st) s.heap.objs.size f cdv)) → A.guards = some [] →
      Takes (cxOf (L2.CX P w) P w K mg base N qual (defScope st) f cdv A outer s H E) (WofE E) → PassesOwn (model P w) (cxOf (L2.CX P w) P w K mg base N qual (defScope st) f cdv A outer s H E).A (cxOf (L2.CX P w) P w K mg base N qual (defScope st) f cdv A outer s H E).env (cxOf (L2.CX P w) P w K mg base N qual (defScope st) f cdv A outer s H E).xe →
      PSs (cxOf (L2.CX P w) P w K mg base N qual (defScope st) f cdv A outer s H E) (defBody st) (tBegin K 1 (fun D σ H => ∃ am, tS (drawR am) K (WofE E) (fr am) D σ H)))
    (hlaw : ∀ am ns, ns.length ≤ n → ∃ m', fr am ((startD N [.scr ns]).set 1 (some (.hdl am))) (begun ns) = .ok (.ret (.bl true)) m') : FnG P w K mg base (k + 1) f fd ["script"] (spLaw K n) := by
  obtain ⟨oc, od, kV, doc, pm, an, cdv, ct, osl, rfl, lk, hcd⟩ := F.ex
  refine ⟨fun vs H Q E ⟨a, ns, e, _⟩ => by rw [e]; rfl, fun A outer s H args us vs Q E hr hg e0 hb r hsp => ?_⟩
  obtain ⟨a, ns, rfl, hS, hl, ht, q⟩ := hsp
  refine LamX.run_ofS lk hcd S hr e0 hb r rfl fun hr' => ⟨_, hbody cdv A outer s H E hr' hg (takes_of rfl rfl rfl rfl) (passes_of rfl), ?_⟩
  have er : EnvR K H (L2.start N [.ref a]) (startD N [.scr ns]) := startD_rep (.cons (.scr hS) .nil)
  have h0 : (L2.start N [V.ref a])[0]? = some (some (.ref a)) := rfl
  refine ⟨.ref a, h0, H, a, ns, rfl, wf_begin (K := K) ht, hS, Nat.le_trans hl hn, fun am F' H' up wf => ?_⟩
  obtain ⟨m', e⟩ := hlaw am ns hl
  refine ⟨am, begun ns, F', _, wf, (er.up up).set 1 (.hdl am), ?_⟩
  rw [e]
  intro F2 H2 st v rv
  rw [rep_bl rv]
  exact q H2
end
end DE

/-! DE12: {}, enumerate, names of built-ins. -/
namespace DE
open PySem PySem.Spec PyProof.Rows L2
theorem hu64 {A : Around} {k : Nat} (hr : Room k A) : A.units + 64 < cLine := hr.units
def dDic0 {M : Type} : DEnv → Mo M D := fun _ => Mo.ret .dic0
def enumD : Nat → List D → List D
  | _, [] => []
  | i, d :: ds => .tup [.int (i : Nat), d] :: enumD (i + 1) ds
def dEnumI {M : Type} (l : DEnv → Mo M (List D)) : DEnv → Mo M (List D) := fun ρ => Mo.bnd (l ρ) fun xs => Mo.opt (match xs with
  | [.lst ds] => some (enumD 0 ds)
  | _ => none)
theorem enumD_get : ∀ (ds : List D) (s i : Nat), (enumD s ds)[i]? = (ds[i]?).map fun d => D.tup [.int ((s + i : Nat) : Int), d]
  | [], s, i => by simp [enumD]
  | d :: ds, s, 0 => by simp [enumD]
  | d :: ds, s, i + 1 => by
    have := enumD_get ds (s + 1) i
    simp only [enumD, List.getElem?_cons_succ, this]
    have e : s + 1 + i = s + (i + 1) := by omega
    rw [e]
theorem enumD_len : ∀ (ds : List D) (s : Nat), (enumD s ds).length = ds.length
  | [], s => rfl
  | d :: ds, s => by simp [enumD, enumD_len ds (s + 1)]
section
variable {R : Res} {X : Cx} {W : WX}
theorem je_dic0 {pos : Pos} : JE R X W (.Dict [] [] pos) dDic0 := by
  refine wkE pe_dnewK fun σ H Q ⟨m, F, ρ, w, er, p⟩ q hq => ?_
  have st := Stp.new w hq (o := .dK []) (fun _ z => nomatch z)
  exact p _ _ st _ (.dic0 upd_same)
theorem ji_enum {e : Expr} {l : DEnv → Mo R.M (List D)} {p pos tpos : Pos} {elts : List Expr} {kk : Nat} (hm : X.mg "enumerate" = none) (ha : JL R X W [e] l) (hg : Gl X "enumerate" := by rfl) (hs : starEach [e] X.env = [(false, eval e X.env)] := by rfl) :
    JI R X W (.Tuple elts kk tpos) (.Call (.Name "enumerate" p) [e] [] pos) (dEnumI l) := by
  refine wkI (pi_enum hg hm ha hs) fun σ H Rr ⟨m, F, ρ, w, er, p⟩ => ?_
  refine ⟨m, F, ρ, w, er, p.split.mono fun xs m1 F1 H1 s1 p1 vs rvs => ?_⟩
  obtain ⟨ds, e1, q⟩ := Post.opt s1.wf p1
  match xs, rvs, e1 with
  | [.lst ys], rvs, e1 =>
    obtain ⟨v, rfl, r1⟩ := repL1 rvs
    obtain ⟨b, zs, rfl, t, l⟩ := rep_lst r1
    cases e1
    refine ⟨b, zs, rfl, SqL.of (s1.wf.sub _ _ t), q _ ⟨fun {m2 F2 H2} up w2 i => ⟨fun hi => ⟨zs, SqL.of (w2.sub _ _ (up _ _ t)), by rw [l.length]; rw [enumD_len] at hi; exact hi⟩, fun d hd => ?_⟩⟩⟩
    rw [enumD_get] at hd
    obtain ⟨y, hy, rfl⟩ := map_some hd
    obtain ⟨x, hx, rx⟩ := l.getD hy
    have hq := SqL.of (K := X.K) (w2.sub _ _ (up _ _ t))
    refine ⟨⟨zs, x, hq, hx⟩, fun z H3 hz => ?_⟩
    obtain ⟨T, x', rfl, hT, rfl, hall⟩ := hz
    have hx' := hall zs hq
    rw [hx] at hx'
    cases hx'
    have st := Stp.new w2 hT (o := .tup [.int (i : Nat), x]) (fun _ z => nomatch z)
    refine ⟨_, st, .tup (.inl upd_same) (.cons ?_ (.cons (rx.up (up.trans st.up)) .nil))⟩
    rw [Nat.zero_add]
    exact .int _
  | [], rvs, e1 => cases e1
  | [.non], _, e1 | [.bl _], _, e1 | [.int _], _, e1 | [.str _], _, e1 | [.ty _], _, e1 | [.tup _], _, e1 | [.dic0], _, e1 | [.scr _], _, e1 | [.cls _], _, e1 | [.obj _ _], _, e1 | [.hdl _], _, e1 | [.exo _ _ _], _, e1 => cases e1
  | _ :: _ :: _, _, e1 => simp at e1
end
end DE

/-! DE13: small joints for a law's text. -/
namespace DE
open PySem PySem.Spec PyProof.Rows L2
def exfF (ecs : List Addr) (fld : Str) : D → Option D := fun d => match d with
  | .exo C _ _ => if C ∈ ecs then exF fld d else none
  | _ => none
theorem je_exf' {R : Res} {X : Cx} {W : WX} {fld : Str} {e : Expr} {fa : DEnv → Mo R.M D} {pos : Pos} {ecs : List Addr} (he : JE R X W e fa) (hx : ∀ C ∈ ecs, ExcX X.K C ∧ PySem.W.findIn X.K (.ref C) fld = some none)
    (hb : attributeBase e fld X.env (eval e X.env) = eval e X.env := by rfl) : JE R X W (.Attribute e fld pos) (dUn (exfF ecs fld) fa) := je_exf he hx hb
theorem next_bad {am : Addr} {ds : List D} {m : DM} (h : ∀ k, ds = [.hdl am, .int k] → ¬ (0 < k ∧ k < 2 ^ 40 ∧ 0 ≤ m.at_ ∧ m.at_ < 2 ^ 30 ∧ m.left.length ≤ 1000 ∧ m.cells.length ≤ 1000)) : nextG am ds m = .bad := by
  unfold nextG
  split
  · rename_i a k
    split
    · rename_i e
      subst e
      show Mo.bnd (nextM k) _ m = _
      unfold Mo.bnd nextM
      rw [if_neg (h k rfl)]
    · rfl
  · rfl
theorem next_use {am : Addr} {K : PySem.W.Frag} {vs : List V} {H : Hp} {Q : VK} {E : XK} (h : spD (drawR am) K 2 (nextG am) vs H Q E) : spD (drawR am) K 2 (fun ds => fin (b_next am (startD nN ds))) vs H Q E := by
  obtain ⟨hl, m, F, ds, wf, r, p⟩ := h
  refine ⟨hl, m, F, ds, wf, r, ?_⟩
  by_cases c : ∃ k, ds = [.hdl am, .int k] ∧ (0 < k ∧ k < 2 ^ 40 ∧ 0 ≤ m.at_ ∧ m.at_ < 2 ^ 30 ∧ m.left.length ≤ 1000 ∧ m.cells.length ≤ 1000)
  · obtain ⟨k, rfl, h1, h2, h3, h4, h5, h6⟩ := c
    exact Eq.mpr (congrArg (fun z => Post (drawR am) K (fun cls d _ H => E cls d H) [] m F H z fun d _ F' H' => ∀ v, Rep K F' v d → Q v H') (next_eq (am := am) h1 h2 h3 h4 h5 h6)) p
  · have e := next_bad (am := am) (ds := ds) (m := m) fun k e z => c ⟨k, e, z⟩
    have p2 := Eq.mp (congrArg (fun z => Post (drawR am) K (fun cls d _ H => E cls d H) [] m F H z fun d _ F' H' => ∀ v, Rep K F' v d → Q v H') e) p
    exact p2.elim
end DE
namespace DE
open PySem PySem.Spec PyProof.Rows L2
def LenJ {M : Type} (l : DEnv → Mo M (List D)) (n : Nat) : Prop := ∀ ρ m, match l ρ m with | .ok xs _ => xs.length = n | _ => True
theorem LenJ.nil {M : Type} : LenJ (dNil (M := M)) 0 := fun ρ m => len_nil ρ m
theorem LenJ.cons {M : Type} {n : Nat} {a : DEnv → Mo M D} {l : DEnv → Mo M (List D)} (h : LenJ l n) : LenJ (dCons a l) (n + 1) := fun ρ m => len_cons h ρ m
section
variable {R : Res} {X : Cx} {W : WX} {k n : Nat} {f : Addr} {fd : FuncData} {ps : List Str}
theorem je_fn' {g : List D → Mo R.M D} {l : DEnv → Mo R.M (List D)} {x : Str} {p pos : Pos} {e : Expr} {es : List Expr} (F : FnG X.prog X.w X.K X.mg X.base k f fd ps (spD R X.K n g)) (hr : Room k X.A) (hgd : X.A.guards = some []) (hm : X.mg x = some (.ref f))
    (hk : PySem.W.keepIn X.K (.ref f) = true) (hb : Binds X.K fd ps []) (tk : Takes X W) (hn : (e :: es).length = n) (hl : JL R X W (e :: es) l) (hlen : LenJ l n) (hg : Gl X x := by rfl)
    (hdb : (x == ("__debug__" : Str)) = false := by decide) (he : starEach (e :: es) X.env = (false, eval e X.env) :: starEach es X.env := by rfl) (hpl : (backTo pos (starEach es X.env)).any (·.1) = false := by rfl) :
    JE R X W (.Call (.Name x p) (e :: es) [] pos) (dFn g l) := je_fn F hr hgd hm hk hb tk hn hl (fun ρ m => by
  have z := hlen ρ m
  cases e : l ρ m with
  | ok xs m1 =>
    rw [e] at z
    exact z
  | exc _ _ _ _ => trivial
  | bad => trivial) hg hdb he hpl
end
end DE

/-! DE14: what the draws keep; == of a thing and itself. -/
namespace DE
open PySem PySem.Spec PyProof.Rows L2
/-- after at most t draws -/
structure DmOk (m : DM) (t : Nat) : Prop where
  lo : 0 ≤ m.at_
  hi : m.at_ ≤ (t : Int)
  lf : m.left.length ≤ 1000
  cl : m.cells.length ≤ 1000
theorem begun_ok {ns : List Int} (h : ns.length ≤ 1000) : DmOk (begun ns) 0 := ⟨Int.le_refl _, Int.le_refl _, Nat.le_trans (List.length_filter_le _ _) h, h⟩
theorem popZ_len : ∀ xs : List Int, (popZ xs).length ≤ xs.length
  | [] => Nat.le_refl _
  | x :: r => by
    unfold popZ
    split
    · exact Nat.le_succ_of_le (popZ_len r)
    · exact Nat.le_refl _
theorem DmOk.mono {m : DM} {t t' : Nat} (h : DmOk m t) (l : t ≤ t') : DmOk m t' := ⟨h.lo, by have := h.hi; omega, h.lf, h.cl⟩
theorem next_ok {am : Addr} {m : DM} {t : Nat} {k : Int} (h : DmOk m t) (ht : t < 2 ^ 30) (h0 : 0 < k) (hk : k < 2 ^ 40) : ∃ i m', 0 ≤ i ∧ i < k ∧ DmOk m' (t + 1) ∧ nextG am [.hdl am, .int k] m = .ok (.int i) m' := by
  have g : 0 < k ∧ k < 2 ^ 40 ∧ 0 ≤ m.at_ ∧ m.at_ < 2 ^ 30 ∧ m.left.length ≤ 1000 ∧ m.cells.length ≤ 1000 := ⟨h0, hk, h.lo, by have := h.hi; omega, h.lf, h.cl⟩
  have eG : nextG am [.hdl am, .int k] = Mo.bnd (nextM k) fun i => Mo.ret (.int i) := if_pos rfl
  have eM : nextM k m = (match popZ m.left with
    | x :: r => .ok (x % k) { m with left := x / k :: r }
    | [] => .ok (mixOf (cellOf m (m.at_ + 1)) (m.at_ + 1) k) { m with left := [], at_ := m.at_ + 1 }) := if_pos g
  have hl := popZ_len m.left
  have h1 := h.lf
  have h2 := h.hi
  have h3 := h.lo
  cases e : popZ m.left with
  | cons x r =>
    rw [e] at eM hl
    refine ⟨x % k, { m with left := x / k :: r }, Int.emod_nonneg _ (by omega), Int.emod_lt_of_pos _ h0, ⟨h3, by show m.at_ ≤ _; omega, ?_, h.cl⟩, ?_⟩
    · show (x / k :: r).length ≤ 1000
      simp only [List.length_cons] at hl ⊢
      omega
    · rw [eG]
      unfold Mo.bnd
      rw [eM]
      rfl
  | nil =>
    rw [e] at eM
    refine ⟨mixOf (cellOf m (m.at_ + 1)) (m.at_ + 1) k, { m with left := [], at_ := m.at_ + 1 }, Int.emod_nonneg _ (by omega), Int.emod_lt_of_pos _ h0, ⟨by show 0 ≤ m.at_ + 1; omega, by show m.at_ + 1 ≤ _; omega, Nat.zero_le _, h.cl⟩, ?_⟩
    · rw [eG]
      unfold Mo.bnd
      rw [eM]
      rfl
theorem neF_str {s : Str} (hk : PyData.strOk s = true) : neF (.str s) (.str s) = some (.bl false) := by
  unfold neF eqB
  simp only [toPy]
  have hs : SeqAt.shaped (.str s) = true := by simp [SeqAt.shaped, PyData.canLay0, PyData.depth, hk]
  rw [if_pos ⟨hs, hs⟩]
  have e : PyData.eqv (.str s) (.str s) = true := by
    unfold PyData.eqv
    simp
  rw [e]
  rfl
/-! ### isinstance -/
theorem isi_one {K : PySem.W.Frag} {ocs ecs : List Addr} {c c' : Addr} {f : Str} {q : D} {b : Bool} (hm : c ∈ ecs) (h : PySem.W.kitOne K (.ref c) (.ref c') = some b) : isiF K ocs ecs [.exo c f q, .cls c'] = some (.bl b) := by
  show ((if c ∈ ecs then some (Value.ref c) else none).bind fun t => (some (Value.ref c')).bind fun u => (PySem.W.kitOne K t u).map D.bl) = _
  rw [if_pos hm, Option.bind_some, Option.bind_some, h]; rfl
theorem isi_ty {K : PySem.W.Frag} {ocs ecs : List Addr} {c : Addr} {n : String} {f : Str} {q : D} {b : Bool} (hm : c ∈ ecs) (h : PySem.W.kitOne K (.ref c) (.type n) = some b) : isiF K ocs ecs [.exo c f q, .ty n] = some (.bl b) := by
  show ((if c ∈ ecs then some (Value.ref c) else none).bind fun t => (some (Value.type n)).bind fun u => (PySem.W.kitOne K t u).map D.bl) = _
  rw [if_pos hm, Option.bind_some, Option.bind_some, h]; rfl
theorem clsVs_map : ∀ cs : List Addr, clsVs (cs.map D.cls) = some (cs.map Value.ref)
  | [] => rfl
  | c :: cs => by simp [clsVs, clsV, clsVs_map cs]
theorem isi_tup {K : PySem.W.Frag} {ocs ecs : List Addr} {c : Addr} {cs : List Addr} {f : Str} {q : D} {b : Bool} (hm : c ∈ ecs) (h : PySem.W.kitAny K (.ref c) (cs.map .ref) = some b) : isiF K ocs ecs [.exo c f q, .tup (cs.map .cls)] = some (.bl b) := by
  show ((if c ∈ ecs then some (Value.ref c) else none).bind fun t => (clsVs (cs.map .cls)).bind fun us => (PySem.W.kitAny K t us).map D.bl) = _
  rw [if_pos hm, clsVs_map, Option.bind_some, Option.bind_some, h]; rfl
theorem kitAny3 {K : PySem.W.Frag} {t c1 c2 c3 : Value} {b1 b2 b3 : Bool} (h1 : PySem.W.kitOne K t c1 = some b1) (h2 : PySem.W.kitOne K t c2 = some b2) (h3 : PySem.W.kitOne K t c3 = some b3) : PySem.W.kitAny K t [c1, c2, c3] = some (b1 || (b2 || b3)) := by
  simp only [PySem.W.kitAny, h1, h2, h3]
  cases b1 <;> cases b2 <;> cases b3 <;> rfl
theorem kitAny5 {K : PySem.W.Frag} {t c1 c2 c3 c4 c5 : Value} {b1 b2 b3 b4 b5 : Bool} (h1 : PySem.W.kitOne K t c1 = some b1) (h2 : PySem.W.kitOne K t c2 = some b2) (h3 : PySem.W.kitOne K t c3 = some b3) (h4 : PySem.W.kitOne K t c4 = some b4) (h5 : PySem.W.kitOne K t c5 = some b5) :
    PySem.W.kitAny K t [c1, c2, c3, c4, c5] = some (b1 || (b2 || (b3 || (b4 || b5)))) := by
  simp only [PySem.W.kitAny, h1, h2, h3, h4, h5]
  cases b1 <;> cases b2 <;> cases b3 <;> cases b4 <;> cases b5 <;> rfl
end DE

/-! L70: the law of the errors. -/
namespace DE.L70
open PySem PySem.Spec PyProof.Rows L2 DE
def top (i : Nat) : Stmt := PySem.Challenge.pw_whomaysign_k70_errors.main.body.getD i (.Pass ⟨0, 0, 0, 0⟩)
abbrev sI_BadPeople : Stmt := inClass (top 2) 0
abbrev sI_BadLot : Stmt := inClass (top 3) 0
abbrev sI_BadClause : Stmt := inClass (top 4) 0
abbrev sI_BadBook : Stmt := inClass (top 5) 0
abbrev sI_BadRow : Stmt := inClass (top 6) 0
abbrev sI_BadWish : Stmt := inClass (top 7) 0
abbrev sI_BadNumber : Stmt := inClass (top 8) 0
abbrev sI_BadPaper : Stmt := inClass (top 9) 0
abbrev sI_BadText : Stmt := inClass (top 10) 0
abbrev sI_TooMany : Stmt := inClass (top 11) 0
abbrev s__law_begun : Stmt := top 13
abbrev s__law_next : Stmt := top 14
abbrev s__law_value : Stmt := top 15
abbrev s__law_kinds : Stmt := top 16
abbrev s__law_field : Stmt := top 17
abbrev s_law : Stmt := top 18
structure Adr where
  c_SignError : Addr
  c_BadPeople : Addr
  i_BadPeople : Addr
  d_BadPeople : FuncData
  c_BadLot : Addr
  i_BadLot : Addr
  d_BadLot : FuncData
  c_BadClause : Addr
  i_BadClause : Addr
  d_BadClause : FuncData
  c_BadBook : Addr
  i_BadBook : Addr
  d_BadBook : FuncData
  c_BadRow : Addr
  i_BadRow : Addr
  d_BadRow : FuncData
  c_BadWish : Addr
  i_BadWish : Addr
  d_BadWish : FuncData
  c_BadNumber : Addr
  i_BadNumber : Addr
  d_BadNumber : FuncData
  c_BadPaper : Addr
  i_BadPaper : Addr
  d_BadPaper : FuncData
  c_BadText : Addr
  i_BadText : Addr
  d_BadText : FuncData
  c_TooMany : Addr
  i_TooMany : Addr
  d_TooMany : FuncData
  f__law_begun : Addr
  d__law_begun : FuncData
  f__law_next : Addr
  d__law_next : FuncData
  f__law_value : Addr
  d__law_value : FuncData
  f__law_kinds : Addr
  d__law_kinds : FuncData
  f__law_field : Addr
  d__law_field : FuncData
  f_law : Addr
  d_law : FuncData
theorem boot_LookupError : bootBuiltins "LookupError" = some (.type "LookupError") := by decide +kernel
theorem boot_OverflowError : bootBuiltins "OverflowError" = some (.type "OverflowError") := by decide +kernel
theorem boot_ValueError : bootBuiltins "ValueError" = some (.type "ValueError") := by decide +kernel
abbrev Adr.ocs (A : Adr) : List Addr := []
abbrev Adr.ecs (A : Adr) : List Addr := [A.c_BadPeople, A.c_BadLot, A.c_BadClause, A.c_BadBook, A.c_BadRow, A.c_BadWish, A.c_BadNumber, A.c_BadPaper, A.c_BadText, A.c_TooMany]
structure Txt (K : PySem.W.Frag) (mg : Str → Option Value) (A : Adr) : Prop where
  n_LookupError : mg "LookupError" = none
  n_OverflowError : mg "OverflowError" = none
  n_ValueError : mg "ValueError" = none
  n_enumerate : mg "enumerate" = none
  n_int : mg "int" = none
  n_isinstance : mg "isinstance" = none
  n_len : mg "len" = none
  n_list : mg "list" = none
  n_min : mg "min" = none
  n_range : mg "range" = none
  n_repr : mg "repr" = none
  m_SignError : mg "SignError" = some (.ref A.c_SignError)
  m_BadPeople : mg "BadPeople" = some (.ref A.c_BadPeople)
  em_BadPeople : ExM K A.c_BadPeople A.i_BadPeople "value"
  ex_BadPeople : ExcX K A.c_BadPeople
  F_BadPeople : Fun K "__init__" "BadPeople.__init__" sI_BadPeople A.i_BadPeople A.d_BadPeople
  b_BadPeople : Binds K A.d_BadPeople ["self", "value"] []
  k_BadPeople : ∀ (s : Shared) (o u : Value), BindsTo s A.d_BadPeople ⟨[o], [("value", u)]⟩ [("self", o), ("value", u)]
  m_BadLot : mg "BadLot" = some (.ref A.c_BadLot)
  em_BadLot : ExM K A.c_BadLot A.i_BadLot "value"
  ex_BadLot : ExcX K A.c_BadLot
  F_BadLot : Fun K "__init__" "BadLot.__init__" sI_BadLot A.i_BadLot A.d_BadLot
  b_BadLot : Binds K A.d_BadLot ["self", "value"] []
  k_BadLot : ∀ (s : Shared) (o u : Value), BindsTo s A.d_BadLot ⟨[o], [("value", u)]⟩ [("self", o), ("value", u)]
  m_BadClause : mg "BadClause" = some (.ref A.c_BadClause)
  em_BadClause : ExM K A.c_BadClause A.i_BadClause "place"
  ex_BadClause : ExcX K A.c_BadClause
  F_BadClause : Fun K "__init__" "BadClause.__init__" sI_BadClause A.i_BadClause A.d_BadClause
  b_BadClause : Binds K A.d_BadClause ["self", "place"] []
  k_BadClause : ∀ (s : Shared) (o u : Value), BindsTo s A.d_BadClause ⟨[o], [("place", u)]⟩ [("self", o), ("place", u)]
  m_BadBook : mg "BadBook" = some (.ref A.c_BadBook)
  em_BadBook : ExM K A.c_BadBook A.i_BadBook "place"
  ex_BadBook : ExcX K A.c_BadBook
  F_BadBook : Fun K "__init__" "BadBook.__init__" sI_BadBook A.i_BadBook A.d_BadBook
  b_BadBook : Binds K A.d_BadBook ["self", "place"] []
  k_BadBook : ∀ (s : Shared) (o u : Value), BindsTo s A.d_BadBook ⟨[o], [("place", u)]⟩ [("self", o), ("place", u)]
  m_BadRow : mg "BadRow" = some (.ref A.c_BadRow)
  em_BadRow : ExM K A.c_BadRow A.i_BadRow "value"
  ex_BadRow : ExcX K A.c_BadRow
  F_BadRow : Fun K "__init__" "BadRow.__init__" sI_BadRow A.i_BadRow A.d_BadRow
  b_BadRow : Binds K A.d_BadRow ["self", "value"] []
  k_BadRow : ∀ (s : Shared) (o u : Value), BindsTo s A.d_BadRow ⟨[o], [("value", u)]⟩ [("self", o), ("value", u)]
  m_BadWish : mg "BadWish" = some (.ref A.c_BadWish)
  em_BadWish : ExM K A.c_BadWish A.i_BadWish "value"
  ex_BadWish : ExcX K A.c_BadWish
  F_BadWish : Fun K "__init__" "BadWish.__init__" sI_BadWish A.i_BadWish A.d_BadWish
  b_BadWish : Binds K A.d_BadWish ["self", "value"] []
  k_BadWish : ∀ (s : Shared) (o u : Value), BindsTo s A.d_BadWish ⟨[o], [("value", u)]⟩ [("self", o), ("value", u)]
  m_BadNumber : mg "BadNumber" = some (.ref A.c_BadNumber)
  em_BadNumber : ExM K A.c_BadNumber A.i_BadNumber "value"
  ex_BadNumber : ExcX K A.c_BadNumber
  F_BadNumber : Fun K "__init__" "BadNumber.__init__" sI_BadNumber A.i_BadNumber A.d_BadNumber
  b_BadNumber : Binds K A.d_BadNumber ["self", "value"] []
  k_BadNumber : ∀ (s : Shared) (o u : Value), BindsTo s A.d_BadNumber ⟨[o], [("value", u)]⟩ [("self", o), ("value", u)]
  m_BadPaper : mg "BadPaper" = some (.ref A.c_BadPaper)
  em_BadPaper : ExM K A.c_BadPaper A.i_BadPaper "place"
  ex_BadPaper : ExcX K A.c_BadPaper
  F_BadPaper : Fun K "__init__" "BadPaper.__init__" sI_BadPaper A.i_BadPaper A.d_BadPaper
  b_BadPaper : Binds K A.d_BadPaper ["self", "place"] []
  k_BadPaper : ∀ (s : Shared) (o u : Value), BindsTo s A.d_BadPaper ⟨[o], [("place", u)]⟩ [("self", o), ("place", u)]
  m_BadText : mg "BadText" = some (.ref A.c_BadText)
  em_BadText : ExM K A.c_BadText A.i_BadText "line"
  ex_BadText : ExcX K A.c_BadText
  F_BadText : Fun K "__init__" "BadText.__init__" sI_BadText A.i_BadText A.d_BadText
  b_BadText : Binds K A.d_BadText ["self", "line"] []
  k_BadText : ∀ (s : Shared) (o u : Value), BindsTo s A.d_BadText ⟨[o], [("line", u)]⟩ [("self", o), ("line", u)]
  m_TooMany : mg "TooMany" = some (.ref A.c_TooMany)
  em_TooMany : ExM K A.c_TooMany A.i_TooMany "most"
  ex_TooMany : ExcX K A.c_TooMany
  F_TooMany : Fun K "__init__" "TooMany.__init__" sI_TooMany A.i_TooMany A.d_TooMany
  b_TooMany : Binds K A.d_TooMany ["self", "most"] []
  k_TooMany : ∀ (s : Shared) (o u : Value), BindsTo s A.d_TooMany ⟨[o], [("most", u)]⟩ [("self", o), ("most", u)]
  m__law_begun : mg "_law_begun" = some (.ref A.f__law_begun)
  F__law_begun : Fun K "_law_begun" "_law_begun" s__law_begun A.f__law_begun A.d__law_begun
  b__law_begun : Binds K A.d__law_begun ["script"] []
  m__law_next : mg "_law_next" = some (.ref A.f__law_next)
  F__law_next : Fun K "_law_next" "_law_next" s__law_next A.f__law_next A.d__law_next
  b__law_next : Binds K A.d__law_next ["m", "many"] []
  m__law_value : mg "_law_value" = some (.ref A.f__law_value)
  F__law_value : Fun K "_law_value" "_law_value" s__law_value A.f__law_value A.d__law_value
  b__law_value : Binds K A.d__law_value ["m"] []
  m__law_kinds : mg "_law_kinds" = some (.ref A.f__law_kinds)
  F__law_kinds : Fun K "_law_kinds" "_law_kinds" s__law_kinds A.f__law_kinds A.d__law_kinds
  b__law_kinds : Binds K A.d__law_kinds ["one"] []
  m__law_field : mg "_law_field" = some (.ref A.f__law_field)
  F__law_field : Fun K "_law_field" "_law_field" s__law_field A.f__law_field A.d__law_field
  b__law_field : Binds K A.d__law_field ["one"] []
  m_law : mg "law" = some (.ref A.f_law)
  F_law : Fun K "law" "law" s_law A.f_law A.d_law
  b_law : Binds K A.d_law ["script"] []
section
variable {K : PySem.W.Frag} {mg : Str → Option Value} {A : Adr} {P : Program} {w : World} {base : Heap}
theorem Txt.own (T : Txt K mg A) : ∀ C ∈ A.ocs, OwnC K C := fun _ h => nomatch h
theorem Txt.exc (T : Txt K mg A) : ∀ C ∈ A.ecs, ExcX K C := fun C h => by
  simp only [List.mem_cons, List.not_mem_nil, or_false] at h
  rcases h with rfl | rfl | rfl | rfl | rfl | rfl | rfl | rfl | rfl | rfl
  · exact T.ex_BadPeople
  · exact T.ex_BadLot
  · exact T.ex_BadClause
  · exact T.ex_BadBook
  · exact T.ex_BadRow
  · exact T.ex_BadWish
  · exact T.ex_BadNumber
  · exact T.ex_BadPaper
  · exact T.ex_BadText
  · exact T.ex_TooMany
theorem Txt.x_value (T : Txt K mg A) : ∀ C ∈ [A.c_BadPeople, A.c_BadLot, A.c_BadRow, A.c_BadWish, A.c_BadNumber], ExcX K C ∧ PySem.W.findIn K (.ref C) "value" = some none := fun C h => by
  simp only [List.mem_cons, List.not_mem_nil, or_false] at h
  rcases h with rfl | rfl | rfl | rfl | rfl
  · exact ⟨T.ex_BadPeople, T.em_BadPeople.no⟩
  · exact ⟨T.ex_BadLot, T.em_BadLot.no⟩
  · exact ⟨T.ex_BadRow, T.em_BadRow.no⟩
  · exact ⟨T.ex_BadWish, T.em_BadWish.no⟩
  · exact ⟨T.ex_BadNumber, T.em_BadNumber.no⟩
theorem Txt.x_place (T : Txt K mg A) : ∀ C ∈ [A.c_BadClause, A.c_BadBook, A.c_BadPaper], ExcX K C ∧ PySem.W.findIn K (.ref C) "place" = some none := fun C h => by
  simp only [List.mem_cons, List.not_mem_nil, or_false] at h
  rcases h with rfl | rfl | rfl
  · exact ⟨T.ex_BadClause, T.em_BadClause.no⟩
  · exact ⟨T.ex_BadBook, T.em_BadBook.no⟩
  · exact ⟨T.ex_BadPaper, T.em_BadPaper.no⟩
theorem Txt.x_line (T : Txt K mg A) : ∀ C ∈ [A.c_BadText], ExcX K C ∧ PySem.W.findIn K (.ref C) "line" = some none := fun C h => by
  simp only [List.mem_cons, List.not_mem_nil, or_false] at h
  cases h
  · exact ⟨T.ex_BadText, T.em_BadText.no⟩
theorem Txt.x_most (T : Txt K mg A) : ∀ C ∈ [A.c_TooMany], ExcX K C ∧ PySem.W.findIn K (.ref C) "most" = some none := fun C h => by
  simp only [List.mem_cons, List.not_mem_nil, or_false] at h
  cases h
  · exact ⟨T.ex_TooMany, T.em_TooMany.no⟩
theorem scI_BadPeople : FnScope ["self", "value"] ["self", "value"] (defScope sI_BadPeople) := ⟨rfl, rfl, rfl, by decide +kernel, rfl, by decide +kernel, by decide +kernel⟩
theorem ok_BadPeople (T : Txt K mg A) : FnOk P w K mg base CX0 1 A.i_BadPeople A.d_BadPeople ["self", "value"] (spInit A.c_BadPeople "value") :=
  DE.ok_init T.F_BadPeople scI_BadPeople T.em_BadPeople rfl (fun _ _ => rfl) (.inl rfl) (.inl rfl) (by decide) (by decide)
theorem scI_BadLot : FnScope ["self", "value"] ["self", "value"] (defScope sI_BadLot) := ⟨rfl, rfl, rfl, by decide +kernel, rfl, by decide +kernel, by decide +kernel⟩
theorem ok_BadLot (T : Txt K mg A) : FnOk P w K mg base CX0 1 A.i_BadLot A.d_BadLot ["self", "value"] (spInit A.c_BadLot "value") :=
  DE.ok_init T.F_BadLot scI_BadLot T.em_BadLot rfl (fun _ _ => rfl) (.inl rfl) (.inl rfl) (by decide) (by decide)
theorem scI_BadClause : FnScope ["self", "place"] ["self", "place"] (defScope sI_BadClause) := ⟨rfl, rfl, rfl, by decide +kernel, rfl, by decide +kernel, by decide +kernel⟩
theorem ok_BadClause (T : Txt K mg A) : FnOk P w K mg base CX0 1 A.i_BadClause A.d_BadClause ["self", "place"] (spInit A.c_BadClause "place") :=
  DE.ok_init T.F_BadClause scI_BadClause T.em_BadClause rfl (fun _ _ => rfl) (.inl rfl) (.inl rfl) (by decide) (by decide)
theorem scI_BadBook : FnScope ["self", "place"] ["self", "place"] (defScope sI_BadBook) := ⟨rfl, rfl, rfl, by decide +kernel, rfl, by decide +kernel, by decide +kernel⟩
theorem ok_BadBook (T : Txt K mg A) : FnOk P w K mg base CX0 1 A.i_BadBook A.d_BadBook ["self", "place"] (spInit A.c_BadBook "place") :=
  DE.ok_init T.F_BadBook scI_BadBook T.em_BadBook rfl (fun _ _ => rfl) (.inl rfl) (.inl rfl) (by decide) (by decide)
theorem scI_BadRow : FnScope ["self", "value"] ["self", "value"] (defScope sI_BadRow) := ⟨rfl, rfl, rfl, by decide +kernel, rfl, by decide +kernel, by decide +kernel⟩
theorem ok_BadRow (T : Txt K mg A) : FnOk P w K mg base CX0 1 A.i_BadRow A.d_BadRow ["self", "value"] (spInit A.c_BadRow "value") :=
  DE.ok_init T.F_BadRow scI_BadRow T.em_BadRow rfl (fun _ _ => rfl) (.inl rfl) (.inl rfl) (by decide) (by decide)
theorem scI_BadWish : FnScope ["self", "value"] ["self", "value"] (defScope sI_BadWish) := ⟨rfl, rfl, rfl, by decide +kernel, rfl, by decide +kernel, by decide +kernel⟩
theorem ok_BadWish (T : Txt K mg A) : FnOk P w K mg base CX0 1 A.i_BadWish A.d_BadWish ["self", "value"] (spInit A.c_BadWish "value") :=
  DE.ok_init T.F_BadWish scI_BadWish T.em_BadWish rfl (fun _ _ => rfl) (.inl rfl) (.inl rfl) (by decide) (by decide)
theorem scI_BadNumber : FnScope ["self", "value"] ["self", "value"] (defScope sI_BadNumber) := ⟨rfl, rfl, rfl, by decide +kernel, rfl, by decide +kernel, by decide +kernel⟩
theorem ok_BadNumber (T : Txt K mg A) : FnOk P w K mg base CX0 1 A.i_BadNumber A.d_BadNumber ["self", "value"] (spInit A.c_BadNumber "value") :=
  DE.ok_init T.F_BadNumber scI_BadNumber T.em_BadNumber rfl (fun _ _ => rfl) (.inl rfl) (.inl rfl) (by decide) (by decide)
theorem scI_BadPaper : FnScope ["self", "place"] ["self", "place"] (defScope sI_BadPaper) := ⟨rfl, rfl, rfl, by decide +kernel, rfl, by decide +kernel, by decide +kernel⟩
theorem ok_BadPaper (T : Txt K mg A) : FnOk P w K mg base CX0 1 A.i_BadPaper A.d_BadPaper ["self", "place"] (spInit A.c_BadPaper "place") :=
  DE.ok_init T.F_BadPaper scI_BadPaper T.em_BadPaper rfl (fun _ _ => rfl) (.inl rfl) (.inl rfl) (by decide) (by decide)
theorem scI_BadText : FnScope ["self", "line"] ["self", "line"] (defScope sI_BadText) := ⟨rfl, rfl, rfl, by decide +kernel, rfl, by decide +kernel, by decide +kernel⟩
theorem ok_BadText (T : Txt K mg A) : FnOk P w K mg base CX0 1 A.i_BadText A.d_BadText ["self", "line"] (spInit A.c_BadText "line") :=
  DE.ok_init T.F_BadText scI_BadText T.em_BadText rfl (fun _ _ => rfl) (.inl rfl) (.inl rfl) (by decide) (by decide)
theorem scI_TooMany : FnScope ["self", "most"] ["self", "most"] (defScope sI_TooMany) := ⟨rfl, rfl, rfl, by decide +kernel, rfl, by decide +kernel, by decide +kernel⟩
theorem ok_TooMany (T : Txt K mg A) : FnOk P w K mg base CX0 1 A.i_TooMany A.d_TooMany ["self", "most"] (spInit A.c_TooMany "most") :=
  DE.ok_init T.F_TooMany scI_TooMany T.em_TooMany rfl (fun _ _ => rfl) (.inl rfl) (.inl rfl) (by decide) (by decide)
theorem sc__law_begun : FnScope ["script", "cell"] ["script"] (defScope s__law_begun) := ⟨rfl, rfl, rfl, by decide +kernel, rfl, by decide +kernel, by decide +kernel⟩
theorem sc__law_next : FnScope ["m", "many", "rest", "at", "bits", "cell", "blend"] ["m", "many"] (defScope s__law_next) := ⟨rfl, rfl, rfl, by decide +kernel, rfl, by decide +kernel, by decide +kernel⟩
theorem sc__law_value : FnScope ["m"] ["m"] (defScope s__law_value) := ⟨rfl, rfl, rfl, by decide +kernel, rfl, by decide +kernel, by decide +kernel⟩
theorem sc__law_kinds : FnScope ["one", "found"] ["one"] (defScope s__law_kinds) := ⟨rfl, rfl, rfl, by decide +kernel, rfl, by decide +kernel, by decide +kernel⟩
theorem sc__law_field : FnScope ["one"] ["one"] (defScope s__law_field) := ⟨rfl, rfl, rfl, by decide +kernel, rfl, by decide +kernel, by decide +kernel⟩
theorem sc_law : FnScope ["script", "m", "turn", "q", "some", "far", "at", "one", "told", "k"] ["script"] (defScope s_law) := ⟨rfl, rfl, rfl, by decide +kernel, rfl, by decide +kernel, by decide +kernel⟩
theorem ok_begun (T : Txt K mg A) : FnOk P w K mg base CX0 1 A.f__law_begun A.d__law_begun ["script"] (spBegun K) := by
  refine T.F__law_begun.ok sc__law_begun (fun vs H Q E h => ?_) (fun cdv Ar outer s H vs Q E hr h => ⟨t_begun K, ?_, pure_begun vs H Q E h⟩)
  · obtain ⟨F, a, ns, rfl, _⟩ := h
    rfl
  · have S := sc__law_begun
    refine pss_one (ps_ret (pe_disp (pps_cons pe_str (je_bty callD_list T.n_list boot_list (jl_cons (je_var (i := 0)) jl_nil)) (pps_cons pe_str ?_ (pps_cons pe_str pe_int pps_nil))) rfl rfl (by simp) (by decide)))
    exact wkE (pe_lc rfl S.nd (ji_list (je_var (i := 0))) (own := [("cell", 1)]) (show BlkOk ["script", "cell"] (defScope s__law_begun) _ _ from ⟨rfl, by decide +kernel, by decide +kernel, by decide +kernel, by decide +kernel⟩) (fun _ _ _ _ _ => jg_one (i := 1) S.nd) (fun _ _ _ _ _ => jts_one (jb_cmp opd_ge (je_var (i := 1)) (je_bin opd_pow je_int je_int) (by rfl))) (fun _ _ _ _ _ => je_var (i := 1)) (fun _ => rfl)) fun _ _ _ h => lc_weak (T := .one 1) (fun _ h => h) h
theorem G__law_next (T : Txt K mg A) (am : Addr) : FnG P w K mg base 1 A.f__law_next A.d__law_next ["m", "many"] (spD (drawR am) K 2 (nextG am)) := by
  have S := sc__law_next
  have F : FnG P w K mg base 1 A.f__law_next A.d__law_next ["m", "many"] (spD (drawR am) K 2 fun ds => fin (b_next am (startD nN ds))) := fun_okG T.F__law_next S fun cdv Ar outer s H E hr hg tk hp => by
    have cw : CW (WofE E) := fun _ _ _ _ _ h => h
    have hu := hu64 hr
    refine jss_cons cw (js_while 1001 cw hp (jb_w (jw_and (jb_mNe hu (pe_var (i := 0) rfl (.inl rfl) (by decide) (by decide))) (jw_and1 (jb_cmp (opd_eq hu) (je_mFst hu (pe_var (i := 0) rfl (.inl rfl) (by decide) (by decide))) je_int (by rfl))))) (jss_one (js_mCut hu ?cutv (by rfl))))
      (jss_cons cw (js_if (jb_mNe hu (pe_var (i := 0) rfl (.inl rfl) (by decide) (by decide))) (jss_cons cw (js_set (i := 2) S.nd (je_mFst hu (pe_var (i := 0) rfl (.inl rfl) (by decide) (by decide)))) (jss_cons cw (js_mSet0 hu (pe_var (i := 0) rfl (.inl rfl) (by decide) (by decide)) (je_bin opd_div (je_var (i := 2)) (je_var (i := 1)))) (jss_one (js_ret (je_bin opd_mod (je_bty callD_int T.n_int boot_int (jl_cons (je_var (i := 2)) jl_nil)) (je_var (i := 1))))))) jss_nil)
      (jss_cons cw (js_par (i := 3) (j := 4) rfl S.nd (by decide) (jl_cons (je_bin opd_add (je_mAt hu (pe_var (i := 0) rfl (.inl rfl) (by decide) (by decide))) je_int) (jl_cons (je_mCells hu (pe_var (i := 0) rfl (.inl rfl) (by decide) (by decide))) jl_nil)))
      (jss_cons cw (js_mSetA hu (pe_var (i := 0) rfl (.inl rfl) (by decide) (by decide)) (je_var (i := 3)) (by rfl))
      (jss_cons cw (js_set (i := 5) S.nd (je_ife (jb_cmp (opd_ne hu) (je_var (i := 4)) (je_lst jl_nil) (by rfl)) (je_bty callD_int T.n_int boot_int (jl_cons (je_ix ixd (je_var (i := 4)) (je_bin opd_mod (je_bty callD_int T.n_int boot_int (jl_cons (je_bin opd_add (je_bin opd_mul (je_var (i := 3)) (je_var (i := 3))) (je_bin opd_div (je_var (i := 3)) je_int)) jl_nil)) (je_blt callD_len T.n_len boot_len (jl_cons (je_var (i := 4)) jl_nil)))) jl_nil)) je_int))
      (jss_cons cw (js_set (i := 6) S.nd (je_bin opd_mod (je_bty callD_int T.n_int boot_int (jl_cons (je_bin opd_add (je_bin opd_add (je_bin opd_mul (je_var (i := 5)) je_int) (je_bin opd_mul (je_var (i := 3)) je_int)) (je_bin opd_mul (je_bin opd_mul je_int (je_var (i := 3))) (je_var (i := 3)))) jl_nil)) je_int))
      (jss_one (js_ret (je_bin opd_mod (je_bty callD_int T.n_int boot_int (jl_cons (je_bin opd_div (je_bin opd_mod (je_bty callD_int T.n_int boot_int (jl_cons (je_bin opd_add (je_bin opd_mul (je_var (i := 6)) je_int) (je_bin opd_mul je_int (je_var (i := 3)))) jl_nil)) je_int) je_int) jl_nil)) (je_var (i := 1))))))))))
    rintro em (rfl | rfl) <;> exact pe_var (i := 0) rfl (.inl rfl) (by decide) (by decide)
  exact F.imp fun vs H Q E h => next_use h
def fb__law_value (am : Addr) : DEnv → Mo DM Fl := (sRet (dBin ixF (dLst (dCons (dC .non) (dCons (dC (.int 0)) (dCons (dC (.int 5)) (dCons (dUn negF (dC (.int 1))) (dCons (dC (.str "a")) (dCons (dC (.str "")) (dCons (dTup dNil) (dCons (dTup (dCons (dC (.int 1)) (dCons (dC (.int 2)) dNil))) (dCons (dLst dNil) (dCons dDic0 (dCons (dC (.bl true)) (dCons (dBin powF (dC (.int 10)) (dC (.int 30))) dNil))))))))))))) (dFn (nextG am) (dCons (dVar 0) (dCons (dC (.int 12)) dNil)))))
def g__law_value (am : Addr) (ds : List D) : Mo DM D := fin (fb__law_value am (startD ["m"] ds))
theorem G__law_value (T : Txt K mg A) (am : Addr) : FnG P w K mg base 2 A.f__law_value A.d__law_value ["m"] (spD (drawR am) K 1 (g__law_value am)) := by
  have S := sc__law_value
  refine fun_okG T.F__law_value S fun cdv Ar outer s H E hr hg tk hp => ?_
  have cw : CW (WofE E) := fun _ _ _ _ _ h => h
  exact (jss_one (js_ret (je_ix ixd (je_lst (jl_cons je_non (jl_cons je_int (jl_cons je_int (jl_cons (je_un un_negD je_int) (jl_cons je_str (jl_cons je_str (jl_cons (je_tup jl_nil) (jl_cons (je_tup (jl_cons je_int (jl_cons je_int jl_nil))) (jl_cons (je_lst jl_nil) (jl_cons je_dic0 (jl_cons je_bl (jl_cons (je_bin opd_pow je_int je_int) jl_nil))))))))))))) (je_fn' (G__law_next T am) (hr.mono (by decide)) hg T.m__law_next T.F__law_next.kp T.b__law_next tk rfl (jl_cons (je_var (i := 0)) (jl_cons je_int jl_nil)) (LenJ.cons (LenJ.cons LenJ.nil))))))
def fb__law_kinds {M : Type} (K : PySem.W.Frag) (A : Adr) : DEnv → Mo M Fl := (sSeq (sAsg (.one 1) (dLst (dCons (dCall (isiF K A.ocs A.ecs) (dCons (dVar 0) (dCons (dC (.cls A.c_BadPeople)) dNil))) (dCons (dCall (isiF K A.ocs A.ecs) (dCons (dVar 0) (dCons (dC (.cls A.c_BadLot)) dNil))) (dCons (dCall (isiF K A.ocs A.ecs) (dCons (dVar 0) (dCons (dC (.cls A.c_BadClause)) dNil))) (dCons (dCall (isiF K A.ocs A.ecs) (dCons (dVar 0) (dCons (dC (.cls A.c_BadBook)) dNil))) dNil)))))) (sSeq (sAsg (.one 1) (dBin addF (dVar 1) (dLst (dCons (dCall (isiF K A.ocs A.ecs) (dCons (dVar 0) (dCons (dC (.cls A.c_BadRow)) dNil))) (dCons (dCall (isiF K A.ocs A.ecs) (dCons (dVar 0) (dCons (dC (.cls A.c_BadWish)) dNil))) (dCons (dCall (isiF K A.ocs A.ecs) (dCons (dVar 0) (dCons (dC (.cls A.c_BadNumber)) dNil))) dNil)))))) (sRet (dBin addF (dVar 1) (dLst (dCons (dCall (isiF K A.ocs A.ecs) (dCons (dVar 0) (dCons (dC (.cls A.c_BadPaper)) dNil))) (dCons (dCall (isiF K A.ocs A.ecs) (dCons (dVar 0) (dCons (dC (.cls A.c_BadText)) dNil))) (dCons (dCall (isiF K A.ocs A.ecs) (dCons (dVar 0) (dCons (dC (.cls A.c_TooMany)) dNil))) dNil))))))))
def g__law_kinds {M : Type} (K : PySem.W.Frag) (A : Adr) (ds : List D) : Mo M D := fin (fb__law_kinds K A (startD ["one", "found"] ds))
theorem G__law_kinds {R : Res} (T : Txt K mg A) : FnG P w K mg base 1 A.f__law_kinds A.d__law_kinds ["one"] (spD R K 1 (g__law_kinds K A)) := by
  have S := sc__law_kinds
  refine fun_okG T.F__law_kinds S fun cdv Ar outer s H E hr hg tk hp => ?_
  have cw : CW (WofE E) := fun _ _ _ _ _ h => h
  exact (jss_cons cw (js_set (i := 1) S.nd (je_lst (jl_cons (je_blt (callD_isi T.own T.exc) T.n_isinstance boot_isinstance (jl_cons (je_var (i := 0)) (jl_cons (je_cls T.m_BadPeople) jl_nil))) (jl_cons (je_blt (callD_isi T.own T.exc) T.n_isinstance boot_isinstance (jl_cons (je_var (i := 0)) (jl_cons (je_cls T.m_BadLot) jl_nil))) (jl_cons (je_blt (callD_isi T.own T.exc) T.n_isinstance boot_isinstance (jl_cons (je_var (i := 0)) (jl_cons (je_cls T.m_BadClause) jl_nil))) (jl_cons (je_blt (callD_isi T.own T.exc) T.n_isinstance boot_isinstance (jl_cons (je_var (i := 0)) (jl_cons (je_cls T.m_BadBook) jl_nil))) jl_nil)))))) (jss_cons cw (js_set (i := 1) S.nd (je_bin opd_add (je_var (i := 1)) (je_lst (jl_cons (je_blt (callD_isi T.own T.exc) T.n_isinstance boot_isinstance (jl_cons (je_var (i := 0)) (jl_cons (je_cls T.m_BadRow) jl_nil))) (jl_cons (je_blt (callD_isi T.own T.exc) T.n_isinstance boot_isinstance (jl_cons (je_var (i := 0)) (jl_cons (je_cls T.m_BadWish) jl_nil))) (jl_cons (je_blt (callD_isi T.own T.exc) T.n_isinstance boot_isinstance (jl_cons (je_var (i := 0)) (jl_cons (je_cls T.m_BadNumber) jl_nil))) jl_nil)))))) (jss_one (js_ret (je_bin opd_add (je_var (i := 1)) (je_lst (jl_cons (je_blt (callD_isi T.own T.exc) T.n_isinstance boot_isinstance (jl_cons (je_var (i := 0)) (jl_cons (je_cls T.m_BadPaper) jl_nil))) (jl_cons (je_blt (callD_isi T.own T.exc) T.n_isinstance boot_isinstance (jl_cons (je_var (i := 0)) (jl_cons (je_cls T.m_BadText) jl_nil))) (jl_cons (je_blt (callD_isi T.own T.exc) T.n_isinstance boot_isinstance (jl_cons (je_var (i := 0)) (jl_cons (je_cls T.m_TooMany) jl_nil))) jl_nil)))))))))
def fb__law_field {M : Type} (K : PySem.W.Frag) (A : Adr) : DEnv → Mo M Fl := (sSeq (sIf (bOf (dCall (isiF K A.ocs A.ecs) (dCons (dVar 0) (dCons (dTup (dCons (dC (.cls A.c_BadClause)) (dCons (dC (.cls A.c_BadBook)) (dCons (dC (.cls A.c_BadPaper)) dNil)))) dNil)))) (sRet (dUn (exfF [A.c_BadClause, A.c_BadBook, A.c_BadPaper] "place") (dVar 0))) sNil) (sSeq (sIf (bOf (dCall (isiF K A.ocs A.ecs) (dCons (dVar 0) (dCons (dTup (dCons (dC (.cls A.c_BadPeople)) (dCons (dC (.cls A.c_BadLot)) (dCons (dC (.cls A.c_BadRow)) (dCons (dC (.cls A.c_BadWish)) (dCons (dC (.cls A.c_BadNumber)) dNil)))))) dNil)))) (sRet (dUn (exfF [A.c_BadPeople, A.c_BadLot, A.c_BadRow, A.c_BadWish, A.c_BadNumber] "value") (dVar 0))) sNil) (sRet (dIf (bOf (dCall (isiF K A.ocs A.ecs) (dCons (dVar 0) (dCons (dC (.cls A.c_BadText)) dNil)))) (dUn (exfF [A.c_BadText] "line") (dVar 0)) (dUn (exfF [A.c_TooMany] "most") (dVar 0))))))
def g__law_field {M : Type} (K : PySem.W.Frag) (A : Adr) (ds : List D) : Mo M D := fin (fb__law_field K A (startD ["one"] ds))
theorem G__law_field {R : Res} (T : Txt K mg A) : FnG P w K mg base 1 A.f__law_field A.d__law_field ["one"] (spD R K 1 (g__law_field K A)) := by
  have S := sc__law_field
  refine fun_okG T.F__law_field S fun cdv Ar outer s H E hr hg tk hp => ?_
  have cw : CW (WofE E) := fun _ _ _ _ _ h => h
  exact (jss_cons cw (js_if (jb_of (je_blt (callD_isi T.own T.exc) T.n_isinstance boot_isinstance (jl_cons (je_var (i := 0)) (jl_cons (je_tup (jl_cons (je_cls T.m_BadClause) (jl_cons (je_cls T.m_BadBook) (jl_cons (je_cls T.m_BadPaper) jl_nil)))) jl_nil)))) (jss_one (js_ret (je_exf' (ecs := [A.c_BadClause, A.c_BadBook, A.c_BadPaper]) (je_var (i := 0)) T.x_place))) jss_nil) (jss_cons cw (js_if (jb_of (je_blt (callD_isi T.own T.exc) T.n_isinstance boot_isinstance (jl_cons (je_var (i := 0)) (jl_cons (je_tup (jl_cons (je_cls T.m_BadPeople) (jl_cons (je_cls T.m_BadLot) (jl_cons (je_cls T.m_BadRow) (jl_cons (je_cls T.m_BadWish) (jl_cons (je_cls T.m_BadNumber) jl_nil)))))) jl_nil)))) (jss_one (js_ret (je_exf' (ecs := [A.c_BadPeople, A.c_BadLot, A.c_BadRow, A.c_BadWish, A.c_BadNumber]) (je_var (i := 0)) T.x_value))) jss_nil) (jss_one (js_ret (je_ife (jb_of (je_blt (callD_isi T.own T.exc) T.n_isinstance boot_isinstance (jl_cons (je_var (i := 0)) (jl_cons (je_cls T.m_BadText) jl_nil)))) (je_exf' (ecs := [A.c_BadText]) (je_var (i := 0)) T.x_line) (je_exf' (ecs := [A.c_TooMany]) (je_var (i := 0)) T.x_most))))))
def fr_law (K : PySem.W.Frag) (A : Adr) (am : Addr) : DEnv → Mo DM Fl := (sSeq (sFor (.one 2) (dRng1 (dCons (dBin addF (dC (.int 2)) (dCall minF (dCons (dCall lenF (dCons (dVar 0) dNil)) (dCons (dC (.int 6)) dNil)))) dNil)) (sSeq (sAsg (.one 3) (dFn (g__law_value am) (dCons (dVar 1) dNil))) (sSeq (sAsg (.one 4) (dLst (dCons (dExo A.c_BadPeople "value" (dVar 3)) (dCons (dExo A.c_BadLot "value" (dVar 3)) (dCons (dExo A.c_BadClause "place" (dVar 3)) (dCons (dExo A.c_BadBook "place" (dVar 3)) (dCons (dExo A.c_BadRow "value" (dVar 3)) (dCons (dExo A.c_BadWish "value" (dVar 3)) (dCons (dExo A.c_BadNumber "value" (dVar 3)) (dCons (dExo A.c_BadPaper "place" (dVar 3)) dNil)))))))))) (sSeq (sAsg (.one 4) (dBin addF (dVar 4) (dLst (dCons (dExo A.c_BadText "line" (dVar 3)) (dCons (dExo A.c_TooMany "most" (dVar 3)) dNil))))) (sSeq (sAsg (.one 5) (dLst (dCons (dExo A.c_BadPeople "value" (dVar 3)) (dCons (dExo A.c_BadLot "value" (dVar 3)) (dCons (dExo A.c_BadClause "place" (dVar 3)) (dCons (dExo A.c_BadBook "place" (dVar 3)) (dCons (dExo A.c_BadRow "value" (dVar 3)) dNil))))))) (sSeq (sAsg (.one 5) (dBin addF (dVar 5) (dLst (dCons (dExo A.c_BadWish "value" (dVar 3)) (dCons (dExo A.c_BadNumber "value" (dVar 3)) (dCons (dExo A.c_BadPaper "place" (dVar 3)) (dCons (dExo A.c_BadText "line" (dVar 3)) (dCons (dExo A.c_TooMany "most" (dVar 3)) dNil)))))))) (sFor (.many [6, 7]) (dEnumI (dCons (dVar 4) dNil)) (sSeq (sIf (bOr (bOf (dBin neF (dCall reprF (dCons (dFn (g__law_field K A) (dCons (dVar 7) dNil)) dNil)) (dCall reprF (dCons (dVar 3) dNil)))) (bOf (dBin neF (dCall reprF (dCons (dFn (g__law_field K A) (dCons (dBin ixF (dVar 5) (dVar 6)) dNil)) dNil)) (dCall reprF (dCons (dVar 3) dNil))))) (sRet (dC (.bl false))) sNil) (sSeq (sIf (bOr (bOf (dBin neF (dFn (g__law_kinds K A) (dCons (dVar 7) dNil)) (dLc (.one 9) [9] (dRng1 (dCons (dC (.int 10)) dNil)) bYes (dBin eqF (dVar 9) (dVar 6))))) (bOf (dBin neF (dFn (g__law_kinds K A) (dCons (dBin ixF (dVar 5) (dVar 6)) dNil)) (dFn (g__law_kinds K A) (dCons (dVar 7) dNil))))) (sRet (dC (.bl false))) sNil) (sSeq (sAsg (.one 8) (dLst (dCons (dCall (isiF K A.ocs A.ecs) (dCons (dVar 7) (dCons (dC (.cls A.c_SignError)) dNil))) (dCons (dCall (isiF K A.ocs A.ecs) (dCons (dVar 7) (dCons (dC (.ty "ValueError")) dNil))) (dCons (dCall (isiF K A.ocs A.ecs) (dCons (dVar 7) (dCons (dC (.ty "LookupError")) dNil))) dNil))))) (sIf (bOf (dBin neF (dBin addF (dVar 8) (dLst (dCons (dCall (isiF K A.ocs A.ecs) (dCons (dVar 7) (dCons (dC (.ty "OverflowError")) dNil))) dNil))) (dLst (dCons (dBin ltF (dVar 6) (dC (.int 9))) (dCons (dBin ltF (dVar 6) (dC (.int 9))) (dCons (dC (.bl false)) (dCons (dBin eqF (dVar 6) (dC (.int 9))) dNil))))))) (sRet (dC (.bl false))) sNil))))))))))) (sRet (dC (.bl true))))
theorem G_law (T : Txt K mg A) (hlaw : ∀ am ns, ns.length ≤ 63 → ∃ m', fr_law K A am ((startD ["script", "m", "turn", "q", "some", "far", "at", "one", "told", "k"] [.scr ns]).set 1 (some (.hdl am))) (begun ns) = .ok (.ret (.bl true)) m') : FnG P w K mg base 4 A.f_law A.d_law ["script"] (spLaw K 63) := by
  have S := sc_law
  refine law_draws T.F_law S (by decide) (by decide) (fun cdv Ar outer s H E hr hg tk hp => ?_) hlaw
  have cw : CW (WofE E) := fun _ _ _ _ _ h => h
  refine pss_cons (ps_set (i := 1) S.nd rfl (Or.inl rfl) (pe_call (ok_begun T) (hr.mono (by decide)) rfl T.m__law_begun T.F__law_begun.kp T.b__law_begun .nil pass0 (pa_cons (pe_var (i := 0) rfl (.inl rfl) (by decide) (by decide)) pa_nil))) (pss_all fun am => ?_)
  exact (jss_cons cw (js_for cw hp rfl (ji_rng1 T.n_range (jl_cons (je_bin opd_add je_int (je_blt (callD_min rfl) T.n_min boot_min (jl_cons (je_blt callD_len T.n_len boot_len (jl_cons (je_var (i := 0)) jl_nil)) (jl_cons je_int jl_nil)))) jl_nil)) (jg_one (i := 2) S.nd) (jss_cons cw (js_set (i := 3) S.nd (je_fn' (G__law_value T am) (hr.mono (by decide)) hg T.m__law_value T.F__law_value.kp T.b__law_value tk rfl (jl_cons (je_var (i := 1)) jl_nil) (LenJ.cons LenJ.nil))) (jss_cons cw (js_set (i := 4) S.nd (je_lst (jl_cons (je_exo T.em_BadPeople (ok_BadPeople T) (hr.mono (by decide)) T.b_BadPeople T.m_BadPeople (je_var (i := 3))) (jl_cons (je_exo T.em_BadLot (ok_BadLot T) (hr.mono (by decide)) T.b_BadLot T.m_BadLot (je_var (i := 3))) (jl_cons (je_exo T.em_BadClause (ok_BadClause T) (hr.mono (by decide)) T.b_BadClause T.m_BadClause (je_var (i := 3))) (jl_cons (je_exo T.em_BadBook (ok_BadBook T) (hr.mono (by decide)) T.b_BadBook T.m_BadBook (je_var (i := 3))) (jl_cons (je_exo T.em_BadRow (ok_BadRow T) (hr.mono (by decide)) T.b_BadRow T.m_BadRow (je_var (i := 3))) (jl_cons (je_exo T.em_BadWish (ok_BadWish T) (hr.mono (by decide)) T.b_BadWish T.m_BadWish (je_var (i := 3))) (jl_cons (je_exo T.em_BadNumber (ok_BadNumber T) (hr.mono (by decide)) T.b_BadNumber T.m_BadNumber (je_var (i := 3))) (jl_cons (je_exo T.em_BadPaper (ok_BadPaper T) (hr.mono (by decide)) T.b_BadPaper T.m_BadPaper (je_var (i := 3))) jl_nil)))))))))) (jss_cons cw (js_set (i := 4) S.nd (je_bin opd_add (je_var (i := 4)) (je_lst (jl_cons (je_exo T.em_BadText (ok_BadText T) (hr.mono (by decide)) T.b_BadText T.m_BadText (je_var (i := 3))) (jl_cons (je_exo T.em_TooMany (ok_TooMany T) (hr.mono (by decide)) T.b_TooMany T.m_TooMany (je_var (i := 3))) jl_nil))))) (jss_cons cw (js_set (i := 5) S.nd (je_lst (jl_cons (je_exoK T.em_BadPeople (ok_BadPeople T) (hr.mono (by decide)) T.k_BadPeople T.m_BadPeople (je_var (i := 3))) (jl_cons (je_exoK T.em_BadLot (ok_BadLot T) (hr.mono (by decide)) T.k_BadLot T.m_BadLot (je_var (i := 3))) (jl_cons (je_exoK T.em_BadClause (ok_BadClause T) (hr.mono (by decide)) T.k_BadClause T.m_BadClause (je_var (i := 3))) (jl_cons (je_exoK T.em_BadBook (ok_BadBook T) (hr.mono (by decide)) T.k_BadBook T.m_BadBook (je_var (i := 3))) (jl_cons (je_exoK T.em_BadRow (ok_BadRow T) (hr.mono (by decide)) T.k_BadRow T.m_BadRow (je_var (i := 3))) jl_nil))))))) (jss_cons cw (js_set (i := 5) S.nd (je_bin opd_add (je_var (i := 5)) (je_lst (jl_cons (je_exoK T.em_BadWish (ok_BadWish T) (hr.mono (by decide)) T.k_BadWish T.m_BadWish (je_var (i := 3))) (jl_cons (je_exoK T.em_BadNumber (ok_BadNumber T) (hr.mono (by decide)) T.k_BadNumber T.m_BadNumber (je_var (i := 3))) (jl_cons (je_exoK T.em_BadPaper (ok_BadPaper T) (hr.mono (by decide)) T.k_BadPaper T.m_BadPaper (je_var (i := 3))) (jl_cons (je_exoK T.em_BadText (ok_BadText T) (hr.mono (by decide)) T.k_BadText T.m_BadText (je_var (i := 3))) (jl_cons (je_exoK T.em_TooMany (ok_TooMany T) (hr.mono (by decide)) T.k_TooMany T.m_TooMany (je_var (i := 3))) jl_nil)))))))) (jss_one (js_for cw hp rfl (ji_enum T.n_enumerate (jl_cons (je_var (i := 4)) jl_nil)) (jg_many rfl (.cons (pg_name (i := 6) S.nd rfl (by first | exact Or.inl rfl | exact Or.inr rfl) (.inl rfl)) rfl (.cons (pg_name (i := 7) S.nd rfl (by first | exact Or.inl rfl | exact Or.inr rfl) (.inl rfl)) rfl .nil))) (jss_cons cw (js_if (jb_w (jw_or (jb_cmp (opd_ne (hu64 hr)) (je_blt (callD_repr (hu64 hr) hg) T.n_repr boot_repr (jl_cons (je_fn' (G__law_field (R := drawR am) T) (hr.mono (by decide)) hg T.m__law_field T.F__law_field.kp T.b__law_field tk rfl (jl_cons (je_var (i := 7)) jl_nil) (LenJ.cons LenJ.nil)) jl_nil)) (je_blt (callD_repr (hu64 hr) hg) T.n_repr boot_repr (jl_cons (je_var (i := 3)) jl_nil)) (by rfl)) (jw_or1 (jb_cmp (opd_ne (hu64 hr)) (je_blt (callD_repr (hu64 hr) hg) T.n_repr boot_repr (jl_cons (je_fn' (G__law_field (R := drawR am) T) (hr.mono (by decide)) hg T.m__law_field T.F__law_field.kp T.b__law_field tk rfl (jl_cons (je_ix ixd (je_var (i := 5)) (je_var (i := 6))) jl_nil) (LenJ.cons LenJ.nil)) jl_nil)) (je_blt (callD_repr (hu64 hr) hg) T.n_repr boot_repr (jl_cons (je_var (i := 3)) jl_nil)) (by rfl))))) (jss_one (js_ret je_bl)) jss_nil) (jss_cons cw (js_if (jb_w (jw_or (jb_cmp (opd_ne (hu64 hr)) (je_fn' (G__law_kinds (R := drawR am) T) (hr.mono (by decide)) hg T.m__law_kinds T.F__law_kinds.kp T.b__law_kinds tk rfl (jl_cons (je_var (i := 7)) jl_nil) (LenJ.cons LenJ.nil)) (je_lc [("k", 9)] rfl S.nd (fun _ h => h) (ji_rng1 T.n_range (jl_cons je_int jl_nil)) (show BlkOk ["script", "m", "turn", "q", "some", "far", "at", "one", "told", "k"] (defScope s_law) _ _ from ⟨rfl, by decide +kernel, by decide +kernel, by decide +kernel, by decide +kernel⟩) (fun _ _ _ _ _ => (jg_one (i := 9) S.nd)) (fun _ _ _ _ _ => jts_nil) (fun _ _ _ _ _ => (je_cmp (opd_eq (hu64 hr)) (je_var (i := 9)) (je_var (i := 6)) (by rfl)))) (by rfl)) (jw_or1 (jb_cmp (opd_ne (hu64 hr)) (je_fn' (G__law_kinds (R := drawR am) T) (hr.mono (by decide)) hg T.m__law_kinds T.F__law_kinds.kp T.b__law_kinds tk rfl (jl_cons (je_ix ixd (je_var (i := 5)) (je_var (i := 6))) jl_nil) (LenJ.cons LenJ.nil)) (je_fn' (G__law_kinds (R := drawR am) T) (hr.mono (by decide)) hg T.m__law_kinds T.F__law_kinds.kp T.b__law_kinds tk rfl (jl_cons (je_var (i := 7)) jl_nil) (LenJ.cons LenJ.nil)) (by rfl))))) (jss_one (js_ret je_bl)) jss_nil) (jss_cons cw (js_set (i := 8) S.nd (je_lst (jl_cons (je_blt (callD_isi T.own T.exc) T.n_isinstance boot_isinstance (jl_cons (je_var (i := 7)) (jl_cons (je_cls T.m_SignError) jl_nil))) (jl_cons (je_blt (callD_isi T.own T.exc) T.n_isinstance boot_isinstance (jl_cons (je_var (i := 7)) (jl_cons (je_tyn T.n_ValueError boot_ValueError) jl_nil))) (jl_cons (je_blt (callD_isi T.own T.exc) T.n_isinstance boot_isinstance (jl_cons (je_var (i := 7)) (jl_cons (je_tyn T.n_LookupError boot_LookupError) jl_nil))) jl_nil))))) (jss_one (js_if (jb_cmp (opd_ne (hu64 hr)) (je_bin opd_add (je_var (i := 8)) (je_lst (jl_cons (je_blt (callD_isi T.own T.exc) T.n_isinstance boot_isinstance (jl_cons (je_var (i := 7)) (jl_cons (je_tyn T.n_OverflowError boot_OverflowError) jl_nil))) jl_nil))) (je_lst (jl_cons (je_cmp opd_lt (je_var (i := 6)) je_int (by rfl)) (jl_cons (je_cmp opd_lt (je_var (i := 6)) je_int (by rfl)) (jl_cons je_bl (jl_cons (je_cmp (opd_eq (hu64 hr)) (je_var (i := 6)) je_int (by rfl)) jl_nil))))) (by rfl)) (jss_one (js_ret je_bl)) jss_nil))))))))))))) (jss_one (js_ret je_bl)))
end
end DE.L70

namespace DE.L70
open PySem PySem.Spec PyProof.Rows L2 DE
structure Kit (K : PySem.W.Frag) (A : Adr) : Prop where
  x1_1 : PySem.W.kitOne K (.ref A.c_BadPeople) (.ref A.c_BadPeople) = some true
  x1_2 : PySem.W.kitOne K (.ref A.c_BadPeople) (.ref A.c_BadLot) = some false
  x1_3 : PySem.W.kitOne K (.ref A.c_BadPeople) (.ref A.c_BadClause) = some false
  x1_4 : PySem.W.kitOne K (.ref A.c_BadPeople) (.ref A.c_BadBook) = some false
  x1_5 : PySem.W.kitOne K (.ref A.c_BadPeople) (.ref A.c_BadRow) = some false
  x1_6 : PySem.W.kitOne K (.ref A.c_BadPeople) (.ref A.c_BadWish) = some false
  x1_7 : PySem.W.kitOne K (.ref A.c_BadPeople) (.ref A.c_BadNumber) = some false
  x1_8 : PySem.W.kitOne K (.ref A.c_BadPeople) (.ref A.c_BadPaper) = some false
  x1_9 : PySem.W.kitOne K (.ref A.c_BadPeople) (.ref A.c_BadText) = some false
  x1_10 : PySem.W.kitOne K (.ref A.c_BadPeople) (.ref A.c_TooMany) = some false
  x1_0 : PySem.W.kitOne K (.ref A.c_BadPeople) (.ref A.c_SignError) = some true
  x1_v : PySem.W.kitOne K (.ref A.c_BadPeople) (.type "ValueError") = some true
  x1_l : PySem.W.kitOne K (.ref A.c_BadPeople) (.type "LookupError") = some false
  x1_o : PySem.W.kitOne K (.ref A.c_BadPeople) (.type "OverflowError") = some false
  x2_1 : PySem.W.kitOne K (.ref A.c_BadLot) (.ref A.c_BadPeople) = some false
  x2_2 : PySem.W.kitOne K (.ref A.c_BadLot) (.ref A.c_BadLot) = some true
  x2_3 : PySem.W.kitOne K (.ref A.c_BadLot) (.ref A.c_BadClause) = some false
  x2_4 : PySem.W.kitOne K (.ref A.c_BadLot) (.ref A.c_BadBook) = some false
  x2_5 : PySem.W.kitOne K (.ref A.c_BadLot) (.ref A.c_BadRow) = some false
  x2_6 : PySem.W.kitOne K (.ref A.c_BadLot) (.ref A.c_BadWish) = some false
  x2_7 : PySem.W.kitOne K (.ref A.c_BadLot) (.ref A.c_BadNumber) = some false
  x2_8 : PySem.W.kitOne K (.ref A.c_BadLot) (.ref A.c_BadPaper) = some false
  x2_9 : PySem.W.kitOne K (.ref A.c_BadLot) (.ref A.c_BadText) = some false
  x2_10 : PySem.W.kitOne K (.ref A.c_BadLot) (.ref A.c_TooMany) = some false
  x2_0 : PySem.W.kitOne K (.ref A.c_BadLot) (.ref A.c_SignError) = some true
  x2_v : PySem.W.kitOne K (.ref A.c_BadLot) (.type "ValueError") = some true
  x2_l : PySem.W.kitOne K (.ref A.c_BadLot) (.type "LookupError") = some false
  x2_o : PySem.W.kitOne K (.ref A.c_BadLot) (.type "OverflowError") = some false
  x3_1 : PySem.W.kitOne K (.ref A.c_BadClause) (.ref A.c_BadPeople) = some false
  x3_2 : PySem.W.kitOne K (.ref A.c_BadClause) (.ref A.c_BadLot) = some false
  x3_3 : PySem.W.kitOne K (.ref A.c_BadClause) (.ref A.c_BadClause) = some true
  x3_4 : PySem.W.kitOne K (.ref A.c_BadClause) (.ref A.c_BadBook) = some false
  x3_5 : PySem.W.kitOne K (.ref A.c_BadClause) (.ref A.c_BadRow) = some false
  x3_6 : PySem.W.kitOne K (.ref A.c_BadClause) (.ref A.c_BadWish) = some false
  x3_7 : PySem.W.kitOne K (.ref A.c_BadClause) (.ref A.c_BadNumber) = some false
  x3_8 : PySem.W.kitOne K (.ref A.c_BadClause) (.ref A.c_BadPaper) = some false
  x3_9 : PySem.W.kitOne K (.ref A.c_BadClause) (.ref A.c_BadText) = some false
  x3_10 : PySem.W.kitOne K (.ref A.c_BadClause) (.ref A.c_TooMany) = some false
  x3_0 : PySem.W.kitOne K (.ref A.c_BadClause) (.ref A.c_SignError) = some true
  x3_v : PySem.W.kitOne K (.ref A.c_BadClause) (.type "ValueError") = some true
  x3_l : PySem.W.kitOne K (.ref A.c_BadClause) (.type "LookupError") = some false
  x3_o : PySem.W.kitOne K (.ref A.c_BadClause) (.type "OverflowError") = some false
  x4_1 : PySem.W.kitOne K (.ref A.c_BadBook) (.ref A.c_BadPeople) = some false
  x4_2 : PySem.W.kitOne K (.ref A.c_BadBook) (.ref A.c_BadLot) = some false
  x4_3 : PySem.W.kitOne K (.ref A.c_BadBook) (.ref A.c_BadClause) = some false
  x4_4 : PySem.W.kitOne K (.ref A.c_BadBook) (.ref A.c_BadBook) = some true
  x4_5 : PySem.W.kitOne K (.ref A.c_BadBook) (.ref A.c_BadRow) = some false
  x4_6 : PySem.W.kitOne K (.ref A.c_BadBook) (.ref A.c_BadWish) = some false
  x4_7 : PySem.W.kitOne K (.ref A.c_BadBook) (.ref A.c_BadNumber) = some false
  x4_8 : PySem.W.kitOne K (.ref A.c_BadBook) (.ref A.c_BadPaper) = some false
  x4_9 : PySem.W.kitOne K (.ref A.c_BadBook) (.ref A.c_BadText) = some false
  x4_10 : PySem.W.kitOne K (.ref A.c_BadBook) (.ref A.c_TooMany) = some false
  x4_0 : PySem.W.kitOne K (.ref A.c_BadBook) (.ref A.c_SignError) = some true
  x4_v : PySem.W.kitOne K (.ref A.c_BadBook) (.type "ValueError") = some true
  x4_l : PySem.W.kitOne K (.ref A.c_BadBook) (.type "LookupError") = some false
  x4_o : PySem.W.kitOne K (.ref A.c_BadBook) (.type "OverflowError") = some false
  x5_1 : PySem.W.kitOne K (.ref A.c_BadRow) (.ref A.c_BadPeople) = some false
  x5_2 : PySem.W.kitOne K (.ref A.c_BadRow) (.ref A.c_BadLot) = some false
  x5_3 : PySem.W.kitOne K (.ref A.c_BadRow) (.ref A.c_BadClause) = some false
  x5_4 : PySem.W.kitOne K (.ref A.c_BadRow) (.ref A.c_BadBook) = some false
  x5_5 : PySem.W.kitOne K (.ref A.c_BadRow) (.ref A.c_BadRow) = some true
  x5_6 : PySem.W.kitOne K (.ref A.c_BadRow) (.ref A.c_BadWish) = some false
  x5_7 : PySem.W.kitOne K (.ref A.c_BadRow) (.ref A.c_BadNumber) = some false
  x5_8 : PySem.W.kitOne K (.ref A.c_BadRow) (.ref A.c_BadPaper) = some false
  x5_9 : PySem.W.kitOne K (.ref A.c_BadRow) (.ref A.c_BadText) = some false
  x5_10 : PySem.W.kitOne K (.ref A.c_BadRow) (.ref A.c_TooMany) = some false
  x5_0 : PySem.W.kitOne K (.ref A.c_BadRow) (.ref A.c_SignError) = some true
  x5_v : PySem.W.kitOne K (.ref A.c_BadRow) (.type "ValueError") = some true
  x5_l : PySem.W.kitOne K (.ref A.c_BadRow) (.type "LookupError") = some false
  x5_o : PySem.W.kitOne K (.ref A.c_BadRow) (.type "OverflowError") = some false
  x6_1 : PySem.W.kitOne K (.ref A.c_BadWish) (.ref A.c_BadPeople) = some false
  x6_2 : PySem.W.kitOne K (.ref A.c_BadWish) (.ref A.c_BadLot) = some false
  x6_3 : PySem.W.kitOne K (.ref A.c_BadWish) (.ref A.c_BadClause) = some false
  x6_4 : PySem.W.kitOne K (.ref A.c_BadWish) (.ref A.c_BadBook) = some false
  x6_5 : PySem.W.kitOne K (.ref A.c_BadWish) (.ref A.c_BadRow) = some false
  x6_6 : PySem.W.kitOne K (.ref A.c_BadWish) (.ref A.c_BadWish) = some true
  x6_7 : PySem.W.kitOne K (.ref A.c_BadWish) (.ref A.c_BadNumber) = some false
  x6_8 : PySem.W.kitOne K (.ref A.c_BadWish) (.ref A.c_BadPaper) = some false
  x6_9 : PySem.W.kitOne K (.ref A.c_BadWish) (.ref A.c_BadText) = some false
  x6_10 : PySem.W.kitOne K (.ref A.c_BadWish) (.ref A.c_TooMany) = some false
  x6_0 : PySem.W.kitOne K (.ref A.c_BadWish) (.ref A.c_SignError) = some true
  x6_v : PySem.W.kitOne K (.ref A.c_BadWish) (.type "ValueError") = some true
  x6_l : PySem.W.kitOne K (.ref A.c_BadWish) (.type "LookupError") = some false
  x6_o : PySem.W.kitOne K (.ref A.c_BadWish) (.type "OverflowError") = some false
  x7_1 : PySem.W.kitOne K (.ref A.c_BadNumber) (.ref A.c_BadPeople) = some false
  x7_2 : PySem.W.kitOne K (.ref A.c_BadNumber) (.ref A.c_BadLot) = some false
  x7_3 : PySem.W.kitOne K (.ref A.c_BadNumber) (.ref A.c_BadClause) = some false
  x7_4 : PySem.W.kitOne K (.ref A.c_BadNumber) (.ref A.c_BadBook) = some false
  x7_5 : PySem.W.kitOne K (.ref A.c_BadNumber) (.ref A.c_BadRow) = some false
  x7_6 : PySem.W.kitOne K (.ref A.c_BadNumber) (.ref A.c_BadWish) = some false
  x7_7 : PySem.W.kitOne K (.ref A.c_BadNumber) (.ref A.c_BadNumber) = some true
  x7_8 : PySem.W.kitOne K (.ref A.c_BadNumber) (.ref A.c_BadPaper) = some false
  x7_9 : PySem.W.kitOne K (.ref A.c_BadNumber) (.ref A.c_BadText) = some false
  x7_10 : PySem.W.kitOne K (.ref A.c_BadNumber) (.ref A.c_TooMany) = some false
  x7_0 : PySem.W.kitOne K (.ref A.c_BadNumber) (.ref A.c_SignError) = some true
  x7_v : PySem.W.kitOne K (.ref A.c_BadNumber) (.type "ValueError") = some true
  x7_l : PySem.W.kitOne K (.ref A.c_BadNumber) (.type "LookupError") = some false
  x7_o : PySem.W.kitOne K (.ref A.c_BadNumber) (.type "OverflowError") = some false
  x8_1 : PySem.W.kitOne K (.ref A.c_BadPaper) (.ref A.c_BadPeople) = some false
  x8_2 : PySem.W.kitOne K (.ref A.c_BadPaper) (.ref A.c_BadLot) = some false
  x8_3 : PySem.W.kitOne K (.ref A.c_BadPaper) (.ref A.c_BadClause) = some false
  x8_4 : PySem.W.kitOne K (.ref A.c_BadPaper) (.ref A.c_BadBook) = some false
  x8_5 : PySem.W.kitOne K (.ref A.c_BadPaper) (.ref A.c_BadRow) = some false
  x8_6 : PySem.W.kitOne K (.ref A.c_BadPaper) (.ref A.c_BadWish) = some false
  x8_7 : PySem.W.kitOne K (.ref A.c_BadPaper) (.ref A.c_BadNumber) = some false
  x8_8 : PySem.W.kitOne K (.ref A.c_BadPaper) (.ref A.c_BadPaper) = some true
  x8_9 : PySem.W.kitOne K (.ref A.c_BadPaper) (.ref A.c_BadText) = some false
  x8_10 : PySem.W.kitOne K (.ref A.c_BadPaper) (.ref A.c_TooMany) = some false
  x8_0 : PySem.W.kitOne K (.ref A.c_BadPaper) (.ref A.c_SignError) = some true
  x8_v : PySem.W.kitOne K (.ref A.c_BadPaper) (.type "ValueError") = some true
  x8_l : PySem.W.kitOne K (.ref A.c_BadPaper) (.type "LookupError") = some false
  x8_o : PySem.W.kitOne K (.ref A.c_BadPaper) (.type "OverflowError") = some false
  x9_1 : PySem.W.kitOne K (.ref A.c_BadText) (.ref A.c_BadPeople) = some false
  x9_2 : PySem.W.kitOne K (.ref A.c_BadText) (.ref A.c_BadLot) = some false
  x9_3 : PySem.W.kitOne K (.ref A.c_BadText) (.ref A.c_BadClause) = some false
  x9_4 : PySem.W.kitOne K (.ref A.c_BadText) (.ref A.c_BadBook) = some false
  x9_5 : PySem.W.kitOne K (.ref A.c_BadText) (.ref A.c_BadRow) = some false
  x9_6 : PySem.W.kitOne K (.ref A.c_BadText) (.ref A.c_BadWish) = some false
  x9_7 : PySem.W.kitOne K (.ref A.c_BadText) (.ref A.c_BadNumber) = some false
  x9_8 : PySem.W.kitOne K (.ref A.c_BadText) (.ref A.c_BadPaper) = some false
  x9_9 : PySem.W.kitOne K (.ref A.c_BadText) (.ref A.c_BadText) = some true
  x9_10 : PySem.W.kitOne K (.ref A.c_BadText) (.ref A.c_TooMany) = some false
  x9_0 : PySem.W.kitOne K (.ref A.c_BadText) (.ref A.c_SignError) = some true
  x9_v : PySem.W.kitOne K (.ref A.c_BadText) (.type "ValueError") = some true
  x9_l : PySem.W.kitOne K (.ref A.c_BadText) (.type "LookupError") = some false
  x9_o : PySem.W.kitOne K (.ref A.c_BadText) (.type "OverflowError") = some false
  x10_1 : PySem.W.kitOne K (.ref A.c_TooMany) (.ref A.c_BadPeople) = some false
  x10_2 : PySem.W.kitOne K (.ref A.c_TooMany) (.ref A.c_BadLot) = some false
  x10_3 : PySem.W.kitOne K (.ref A.c_TooMany) (.ref A.c_BadClause) = some false
  x10_4 : PySem.W.kitOne K (.ref A.c_TooMany) (.ref A.c_BadBook) = some false
  x10_5 : PySem.W.kitOne K (.ref A.c_TooMany) (.ref A.c_BadRow) = some false
  x10_6 : PySem.W.kitOne K (.ref A.c_TooMany) (.ref A.c_BadWish) = some false
  x10_7 : PySem.W.kitOne K (.ref A.c_TooMany) (.ref A.c_BadNumber) = some false
  x10_8 : PySem.W.kitOne K (.ref A.c_TooMany) (.ref A.c_BadPaper) = some false
  x10_9 : PySem.W.kitOne K (.ref A.c_TooMany) (.ref A.c_BadText) = some false
  x10_10 : PySem.W.kitOne K (.ref A.c_TooMany) (.ref A.c_TooMany) = some true
  x10_0 : PySem.W.kitOne K (.ref A.c_TooMany) (.ref A.c_SignError) = some false
  x10_v : PySem.W.kitOne K (.ref A.c_TooMany) (.type "ValueError") = some false
  x10_l : PySem.W.kitOne K (.ref A.c_TooMany) (.type "LookupError") = some false
  x10_o : PySem.W.kitOne K (.ref A.c_TooMany) (.type "OverflowError") = some true
end DE.L70

namespace DE.L70
open PySem PySem.Spec PyProof.Rows L2 DE
section
variable {K : PySem.W.Frag} {A : Adr} {M : Type}
theorem pow30 : powF (.int 10) (.int 30) = some (.int (10 ^ 30)) := by
  show (if (0:Int) ≤ 30 ∧ (30:Int) ≤ 1000 ∧ (10:Int).natAbs < 2 ^ 64 then some (D.int (10 ^ (30:Int).toNat)) else none) = _
  rw [if_pos (by decide)]
  rfl
theorem repr_a : reprF [.str "a"] = some (.str (PyData.shown (.str "a"))) := by
  have z : reprP (.str "a") = some (PyData.shown (.str "a")) := if_pos (by decide +kernel)
  show (some (PyData.str "a")).bind (fun p => (reprP p).map D.str) = _
  rw [Option.bind_some, z]
  rfl
theorem sl0 : (0 ≤ sizeLine) = True := by simp
theorem sl2 : (0 + 1 + 1 ≤ sizeLine) = True := eq_true (by decide)
theorem sl12 : (0 + 1 + 1 + 1 + 1 + 1 + 1 + 1 + 1 + 1 + 1 + 1 + 1 ≤ sizeLine) = True := eq_true (by decide)
theorem sl3 : (3 ≤ sizeLine) = True := eq_true (by decide)
theorem sl4 : (4 ≤ sizeLine) = True := eq_true (by decide)
theorem sl5 : (5 ≤ sizeLine) = True := eq_true (by decide)
theorem addF_lst (xs ys : List D) : addF (.lst xs) (.lst ys) = if xs.length + ys.length ≤ sizeLine then some (.lst (xs ++ ys)) else none := rfl
theorem sl7 : (7 ≤ sizeLine) = True := eq_true (by decide)
theorem sl8 : (8 ≤ sizeLine) = True := eq_true (by decide)
theorem sl10 : (10 ≤ sizeLine) = True := eq_true (by decide)
theorem sl1 : (1 ≤ sizeLine) = True := eq_true (by decide)
theorem sl2' : (2 ≤ sizeLine) = True := eq_true (by decide)
theorem sl12' : (12 ≤ sizeLine) = True := eq_true (by decide)
/-- a value that repr shows -/
def Shown (q : D) : Prop := ∃ s : Str, reprF [q] = some (.str s) ∧ PyData.strOk s = true
theorem value_ok {am : Addr} {m : DM} {t : Nat} (h : DmOk m t) (ht : t < 2 ^ 30) : ∃ q m', Shown q ∧ DmOk m' (t + 1) ∧ g__law_value am [.hdl am] m = .ok q m' := by
  obtain ⟨i, m', i0, i1, ok, e⟩ := next_ok (am := am) (k := 12) h ht (by decide) (by decide)
  have key : g__law_value am [.hdl am] m = Mo.opt (M := DM) (ixF (.lst [.non, .int 0, .int 5, .int (-1), .str "a", .str "", .tup [], .tup [.int 1, .int 2], .lst [], .dic0, .bl true, .int (10 ^ 30)]) (.int i)) m' := by
    simp only [g__law_value, fb__law_value, fin, sRet, dBin, dLst, dCons, dC, dUn, negF, dTup, dNil, dDic0, dFn, dVar, startD, Mo.bnd, Mo.ret, Mo.opt, List.map_cons, List.map_nil, List.cons_append, List.nil_append, List.getD_cons_zero, pow30, List.length_cons, List.length_nil, Nat.zero_add, Nat.reduceAdd, sl0, sl2', sl12', if_true, e]
    cases ixF (.lst [.non, .int 0, .int 5, .int (-1), .str "a", .str "", .tup [], .tup [.int 1, .int 2], .lst [], .dic0, .bl true, .int (10 ^ 30)]) (.int i) <;> rfl
  obtain ⟨j, rfl, hj⟩ : ∃ j : Nat, i = j ∧ j < 12 := ⟨i.toNat, by omega, by omega⟩
  rw [key]
  match j, hj with

  | 0, _ => exact ⟨.non, m', ⟨_, by rfl, by decide +kernel⟩, ok, rfl⟩
  | 1, _ => exact ⟨.int 0, m', ⟨_, by rfl, by decide +kernel⟩, ok, rfl⟩
  | 2, _ => exact ⟨.int 5, m', ⟨_, by rfl, by decide +kernel⟩, ok, rfl⟩
  | 3, _ => exact ⟨.int (-1), m', ⟨_, by rfl, by decide +kernel⟩, ok, rfl⟩
  | 4, _ => exact ⟨.str "a", m', ⟨_, repr_a, by decide +kernel⟩, ok, rfl⟩
  | 5, _ => exact ⟨.str "", m', ⟨_, by rfl, by decide +kernel⟩, ok, rfl⟩
  | 6, _ => exact ⟨.tup [], m', ⟨_, by rfl, by decide +kernel⟩, ok, rfl⟩
  | 7, _ => exact ⟨.tup [.int 1, .int 2], m', ⟨_, by rfl, by decide +kernel⟩, ok, rfl⟩
  | 8, _ => exact ⟨.lst [], m', ⟨_, by rfl, by decide +kernel⟩, ok, rfl⟩
  | 9, _ => exact ⟨.dic0, m', ⟨_, by rfl, by decide +kernel⟩, ok, rfl⟩
  | 10, _ => exact ⟨.bl true, m', ⟨_, by rfl, by decide +kernel⟩, ok, rfl⟩
  | 11, _ => exact ⟨.int (10 ^ 30), m', ⟨_, by rfl, by decide +kernel⟩, ok, rfl⟩
  | n + 12, hj => exact absurd hj (by omega)
abbrev Ls (A : Adr) (q : D) : List D := [.exo A.c_BadPeople "value" q, .exo A.c_BadLot "value" q, .exo A.c_BadClause "place" q, .exo A.c_BadBook "place" q, .exo A.c_BadRow "value" q, .exo A.c_BadWish "value" q, .exo A.c_BadNumber "value" q, .exo A.c_BadPaper "place" q, .exo A.c_BadText "line" q, .exo A.c_TooMany "most" q]
theorem mem_BadPeople : A.c_BadPeople ∈ A.ecs := by simp [Adr.ecs]
theorem field_BadPeople (X : Kit K A) (q : D) (m : M) : g__law_field K A [.exo A.c_BadPeople "value" q] m = .ok q m := by
  have h3 : isiF K A.ocs A.ecs [.exo A.c_BadPeople "value" q, .tup [.cls A.c_BadClause, .cls A.c_BadBook, .cls A.c_BadPaper]] = some (.bl false) := isi_tup (cs := [A.c_BadClause, A.c_BadBook, A.c_BadPaper]) mem_BadPeople (kitAny3 X.x1_3 X.x1_4 X.x1_8)
  have h5 : isiF K A.ocs A.ecs [.exo A.c_BadPeople "value" q, .tup [.cls A.c_BadPeople, .cls A.c_BadLot, .cls A.c_BadRow, .cls A.c_BadWish, .cls A.c_BadNumber]] = some (.bl true) := isi_tup (cs := [A.c_BadPeople, A.c_BadLot, A.c_BadRow, A.c_BadWish, A.c_BadNumber]) mem_BadPeople (kitAny5 X.x1_1 X.x1_2 X.x1_5 X.x1_6 X.x1_7)
  have h1 : isiF K A.ocs A.ecs [.exo A.c_BadPeople "value" q, .cls A.c_BadText] = some (.bl false) := isi_one mem_BadPeople X.x1_9
  have hx : exfF [A.c_BadPeople, A.c_BadLot, A.c_BadRow, A.c_BadWish, A.c_BadNumber] "value" (.exo A.c_BadPeople "value" q) = some q := by
    show (if A.c_BadPeople ∈ [A.c_BadPeople, A.c_BadLot, A.c_BadRow, A.c_BadWish, A.c_BadNumber] then (if ("value" : Str) = "value" then some q else none) else none) = _
    rw [if_pos (by simp), if_pos rfl]
  simp only [sSeq, sAsg, sRet, sIf, sNil, dLst, dCons, dNil, dCall, dVar, dC, dBin, dFn, dUn, dTup, bOf, bOr, dIf, Mo.bnd, Mo.ret, Mo.opt, bindT, asB, fin, startD, List.map_cons, List.map_nil, List.cons_append, List.nil_append, List.getD_cons_zero, List.getD_cons_succ, List.set_cons_zero, List.set_cons_succ, List.length_cons, List.length_nil, List.replicate_succ, List.replicate_zero, Nat.add_one_sub_one, Nat.sub_self, Nat.zero_add, Nat.reduceAdd, Nat.reduceSub, if_true, Bool.false_eq_true, if_false, sl0, sl3, sl4, sl5, sl7, sl8, sl10, sl1, sl2', addF_lst, g__law_field, fb__law_field, h3, h5, h1, hx]
theorem kinds_BadPeople (X : Kit K A) (q : D) (m : M) : g__law_kinds K A [.exo A.c_BadPeople "value" q] m = .ok (.lst [.bl true, .bl false, .bl false, .bl false, .bl false, .bl false, .bl false, .bl false, .bl false, .bl false]) m := by
  have h1 : isiF K A.ocs A.ecs [.exo A.c_BadPeople "value" q, .cls A.c_BadPeople] = some (.bl true) := isi_one mem_BadPeople X.x1_1
  have h2 : isiF K A.ocs A.ecs [.exo A.c_BadPeople "value" q, .cls A.c_BadLot] = some (.bl false) := isi_one mem_BadPeople X.x1_2
  have h3 : isiF K A.ocs A.ecs [.exo A.c_BadPeople "value" q, .cls A.c_BadClause] = some (.bl false) := isi_one mem_BadPeople X.x1_3
  have h4 : isiF K A.ocs A.ecs [.exo A.c_BadPeople "value" q, .cls A.c_BadBook] = some (.bl false) := isi_one mem_BadPeople X.x1_4
  have h5 : isiF K A.ocs A.ecs [.exo A.c_BadPeople "value" q, .cls A.c_BadRow] = some (.bl false) := isi_one mem_BadPeople X.x1_5
  have h6 : isiF K A.ocs A.ecs [.exo A.c_BadPeople "value" q, .cls A.c_BadWish] = some (.bl false) := isi_one mem_BadPeople X.x1_6
  have h7 : isiF K A.ocs A.ecs [.exo A.c_BadPeople "value" q, .cls A.c_BadNumber] = some (.bl false) := isi_one mem_BadPeople X.x1_7
  have h8 : isiF K A.ocs A.ecs [.exo A.c_BadPeople "value" q, .cls A.c_BadPaper] = some (.bl false) := isi_one mem_BadPeople X.x1_8
  have h9 : isiF K A.ocs A.ecs [.exo A.c_BadPeople "value" q, .cls A.c_BadText] = some (.bl false) := isi_one mem_BadPeople X.x1_9
  have h10 : isiF K A.ocs A.ecs [.exo A.c_BadPeople "value" q, .cls A.c_TooMany] = some (.bl false) := isi_one mem_BadPeople X.x1_10
  simp only [sSeq, sAsg, sRet, sIf, sNil, dLst, dCons, dNil, dCall, dVar, dC, dBin, dFn, dUn, dTup, bOf, bOr, dIf, Mo.bnd, Mo.ret, Mo.opt, bindT, asB, fin, startD, List.map_cons, List.map_nil, List.cons_append, List.nil_append, List.getD_cons_zero, List.getD_cons_succ, List.set_cons_zero, List.set_cons_succ, List.length_cons, List.length_nil, List.replicate_succ, List.replicate_zero, Nat.add_one_sub_one, Nat.sub_self, Nat.zero_add, Nat.reduceAdd, Nat.reduceSub, if_true, Bool.false_eq_true, if_false, sl0, sl3, sl4, sl5, sl7, sl8, sl10, sl1, sl2', addF_lst, g__law_kinds, fb__law_kinds, h1, h2, h3, h4, h5, h6, h7, h8, h9, h10]
theorem mem_BadLot : A.c_BadLot ∈ A.ecs := by simp [Adr.ecs]
theorem field_BadLot (X : Kit K A) (q : D) (m : M) : g__law_field K A [.exo A.c_BadLot "value" q] m = .ok q m := by
  have h3 : isiF K A.ocs A.ecs [.exo A.c_BadLot "value" q, .tup [.cls A.c_BadClause, .cls A.c_BadBook, .cls A.c_BadPaper]] = some (.bl false) := isi_tup (cs := [A.c_BadClause, A.c_BadBook, A.c_BadPaper]) mem_BadLot (kitAny3 X.x2_3 X.x2_4 X.x2_8)
  have h5 : isiF K A.ocs A.ecs [.exo A.c_BadLot "value" q, .tup [.cls A.c_BadPeople, .cls A.c_BadLot, .cls A.c_BadRow, .cls A.c_BadWish, .cls A.c_BadNumber]] = some (.bl true) := isi_tup (cs := [A.c_BadPeople, A.c_BadLot, A.c_BadRow, A.c_BadWish, A.c_BadNumber]) mem_BadLot (kitAny5 X.x2_1 X.x2_2 X.x2_5 X.x2_6 X.x2_7)
  have h1 : isiF K A.ocs A.ecs [.exo A.c_BadLot "value" q, .cls A.c_BadText] = some (.bl false) := isi_one mem_BadLot X.x2_9
  have hx : exfF [A.c_BadPeople, A.c_BadLot, A.c_BadRow, A.c_BadWish, A.c_BadNumber] "value" (.exo A.c_BadLot "value" q) = some q := by
    show (if A.c_BadLot ∈ [A.c_BadPeople, A.c_BadLot, A.c_BadRow, A.c_BadWish, A.c_BadNumber] then (if ("value" : Str) = "value" then some q else none) else none) = _
    rw [if_pos (by simp), if_pos rfl]
  simp only [sSeq, sAsg, sRet, sIf, sNil, dLst, dCons, dNil, dCall, dVar, dC, dBin, dFn, dUn, dTup, bOf, bOr, dIf, Mo.bnd, Mo.ret, Mo.opt, bindT, asB, fin, startD, List.map_cons, List.map_nil, List.cons_append, List.nil_append, List.getD_cons_zero, List.getD_cons_succ, List.set_cons_zero, List.set_cons_succ, List.length_cons, List.length_nil, List.replicate_succ, List.replicate_zero, Nat.add_one_sub_one, Nat.sub_self, Nat.zero_add, Nat.reduceAdd, Nat.reduceSub, if_true, Bool.false_eq_true, if_false, sl0, sl3, sl4, sl5, sl7, sl8, sl10, sl1, sl2', addF_lst, g__law_field, fb__law_field, h3, h5, h1, hx]
theorem kinds_BadLot (X : Kit K A) (q : D) (m : M) : g__law_kinds K A [.exo A.c_BadLot "value" q] m = .ok (.lst [.bl false, .bl true, .bl false, .bl false, .bl false, .bl false, .bl false, .bl false, .bl false, .bl false]) m := by
  have h1 : isiF K A.ocs A.ecs [.exo A.c_BadLot "value" q, .cls A.c_BadPeople] = some (.bl false) := isi_one mem_BadLot X.x2_1
  have h2 : isiF K A.ocs A.ecs [.exo A.c_BadLot "value" q, .cls A.c_BadLot] = some (.bl true) := isi_one mem_BadLot X.x2_2
  have h3 : isiF K A.ocs A.ecs [.exo A.c_BadLot "value" q, .cls A.c_BadClause] = some (.bl false) := isi_one mem_BadLot X.x2_3
  have h4 : isiF K A.ocs A.ecs [.exo A.c_BadLot "value" q, .cls A.c_BadBook] = some (.bl false) := isi_one mem_BadLot X.x2_4
  have h5 : isiF K A.ocs A.ecs [.exo A.c_BadLot "value" q, .cls A.c_BadRow] = some (.bl false) := isi_one mem_BadLot X.x2_5
  have h6 : isiF K A.ocs A.ecs [.exo A.c_BadLot "value" q, .cls A.c_BadWish] = some (.bl false) := isi_one mem_BadLot X.x2_6
  have h7 : isiF K A.ocs A.ecs [.exo A.c_BadLot "value" q, .cls A.c_BadNumber] = some (.bl false) := isi_one mem_BadLot X.x2_7
  have h8 : isiF K A.ocs A.ecs [.exo A.c_BadLot "value" q, .cls A.c_BadPaper] = some (.bl false) := isi_one mem_BadLot X.x2_8
  have h9 : isiF K A.ocs A.ecs [.exo A.c_BadLot "value" q, .cls A.c_BadText] = some (.bl false) := isi_one mem_BadLot X.x2_9
  have h10 : isiF K A.ocs A.ecs [.exo A.c_BadLot "value" q, .cls A.c_TooMany] = some (.bl false) := isi_one mem_BadLot X.x2_10
  simp only [sSeq, sAsg, sRet, sIf, sNil, dLst, dCons, dNil, dCall, dVar, dC, dBin, dFn, dUn, dTup, bOf, bOr, dIf, Mo.bnd, Mo.ret, Mo.opt, bindT, asB, fin, startD, List.map_cons, List.map_nil, List.cons_append, List.nil_append, List.getD_cons_zero, List.getD_cons_succ, List.set_cons_zero, List.set_cons_succ, List.length_cons, List.length_nil, List.replicate_succ, List.replicate_zero, Nat.add_one_sub_one, Nat.sub_self, Nat.zero_add, Nat.reduceAdd, Nat.reduceSub, if_true, Bool.false_eq_true, if_false, sl0, sl3, sl4, sl5, sl7, sl8, sl10, sl1, sl2', addF_lst, g__law_kinds, fb__law_kinds, h1, h2, h3, h4, h5, h6, h7, h8, h9, h10]
theorem mem_BadClause : A.c_BadClause ∈ A.ecs := by simp [Adr.ecs]
theorem field_BadClause (X : Kit K A) (q : D) (m : M) : g__law_field K A [.exo A.c_BadClause "place" q] m = .ok q m := by
  have h3 : isiF K A.ocs A.ecs [.exo A.c_BadClause "place" q, .tup [.cls A.c_BadClause, .cls A.c_BadBook, .cls A.c_BadPaper]] = some (.bl true) := isi_tup (cs := [A.c_BadClause, A.c_BadBook, A.c_BadPaper]) mem_BadClause (kitAny3 X.x3_3 X.x3_4 X.x3_8)
  have h5 : isiF K A.ocs A.ecs [.exo A.c_BadClause "place" q, .tup [.cls A.c_BadPeople, .cls A.c_BadLot, .cls A.c_BadRow, .cls A.c_BadWish, .cls A.c_BadNumber]] = some (.bl false) := isi_tup (cs := [A.c_BadPeople, A.c_BadLot, A.c_BadRow, A.c_BadWish, A.c_BadNumber]) mem_BadClause (kitAny5 X.x3_1 X.x3_2 X.x3_5 X.x3_6 X.x3_7)
  have h1 : isiF K A.ocs A.ecs [.exo A.c_BadClause "place" q, .cls A.c_BadText] = some (.bl false) := isi_one mem_BadClause X.x3_9
  have hx : exfF [A.c_BadClause, A.c_BadBook, A.c_BadPaper] "place" (.exo A.c_BadClause "place" q) = some q := by
    show (if A.c_BadClause ∈ [A.c_BadClause, A.c_BadBook, A.c_BadPaper] then (if ("place" : Str) = "place" then some q else none) else none) = _
    rw [if_pos (by simp), if_pos rfl]
  simp only [sSeq, sAsg, sRet, sIf, sNil, dLst, dCons, dNil, dCall, dVar, dC, dBin, dFn, dUn, dTup, bOf, bOr, dIf, Mo.bnd, Mo.ret, Mo.opt, bindT, asB, fin, startD, List.map_cons, List.map_nil, List.cons_append, List.nil_append, List.getD_cons_zero, List.getD_cons_succ, List.set_cons_zero, List.set_cons_succ, List.length_cons, List.length_nil, List.replicate_succ, List.replicate_zero, Nat.add_one_sub_one, Nat.sub_self, Nat.zero_add, Nat.reduceAdd, Nat.reduceSub, if_true, Bool.false_eq_true, if_false, sl0, sl3, sl4, sl5, sl7, sl8, sl10, sl1, sl2', addF_lst, g__law_field, fb__law_field, h3, h5, h1, hx]
theorem kinds_BadClause (X : Kit K A) (q : D) (m : M) : g__law_kinds K A [.exo A.c_BadClause "place" q] m = .ok (.lst [.bl false, .bl false, .bl true, .bl false, .bl false, .bl false, .bl false, .bl false, .bl false, .bl false]) m := by
  have h1 : isiF K A.ocs A.ecs [.exo A.c_BadClause "place" q, .cls A.c_BadPeople] = some (.bl false) := isi_one mem_BadClause X.x3_1
  have h2 : isiF K A.ocs A.ecs [.exo A.c_BadClause "place" q, .cls A.c_BadLot] = some (.bl false) := isi_one mem_BadClause X.x3_2
  have h3 : isiF K A.ocs A.ecs [.exo A.c_BadClause "place" q, .cls A.c_BadClause] = some (.bl true) := isi_one mem_BadClause X.x3_3
  have h4 : isiF K A.ocs A.ecs [.exo A.c_BadClause "place" q, .cls A.c_BadBook] = some (.bl false) := isi_one mem_BadClause X.x3_4
  have h5 : isiF K A.ocs A.ecs [.exo A.c_BadClause "place" q, .cls A.c_BadRow] = some (.bl false) := isi_one mem_BadClause X.x3_5
  have h6 : isiF K A.ocs A.ecs [.exo A.c_BadClause "place" q, .cls A.c_BadWish] = some (.bl false) := isi_one mem_BadClause X.x3_6
  have h7 : isiF K A.ocs A.ecs [.exo A.c_BadClause "place" q, .cls A.c_BadNumber] = some (.bl false) := isi_one mem_BadClause X.x3_7
  have h8 : isiF K A.ocs A.ecs [.exo A.c_BadClause "place" q, .cls A.c_BadPaper] = some (.bl false) := isi_one mem_BadClause X.x3_8
  have h9 : isiF K A.ocs A.ecs [.exo A.c_BadClause "place" q, .cls A.c_BadText] = some (.bl false) := isi_one mem_BadClause X.x3_9
  have h10 : isiF K A.ocs A.ecs [.exo A.c_BadClause "place" q, .cls A.c_TooMany] = some (.bl false) := isi_one mem_BadClause X.x3_10
  simp only [sSeq, sAsg, sRet, sIf, sNil, dLst, dCons, dNil, dCall, dVar, dC, dBin, dFn, dUn, dTup, bOf, bOr, dIf, Mo.bnd, Mo.ret, Mo.opt, bindT, asB, fin, startD, List.map_cons, List.map_nil, List.cons_append, List.nil_append, List.getD_cons_zero, List.getD_cons_succ, List.set_cons_zero, List.set_cons_succ, List.length_cons, List.length_nil, List.replicate_succ, List.replicate_zero, Nat.add_one_sub_one, Nat.sub_self, Nat.zero_add, Nat.reduceAdd, Nat.reduceSub, if_true, Bool.false_eq_true, if_false, sl0, sl3, sl4, sl5, sl7, sl8, sl10, sl1, sl2', addF_lst, g__law_kinds, fb__law_kinds, h1, h2, h3, h4, h5, h6, h7, h8, h9, h10]
theorem mem_BadBook : A.c_BadBook ∈ A.ecs := by simp [Adr.ecs]
theorem field_BadBook (X : Kit K A) (q : D) (m : M) : g__law_field K A [.exo A.c_BadBook "place" q] m = .ok q m := by
  have h3 : isiF K A.ocs A.ecs [.exo A.c_BadBook "place" q, .tup [.cls A.c_BadClause, .cls A.c_BadBook, .cls A.c_BadPaper]] = some (.bl true) := isi_tup (cs := [A.c_BadClause, A.c_BadBook, A.c_BadPaper]) mem_BadBook (kitAny3 X.x4_3 X.x4_4 X.x4_8)
  have h5 : isiF K A.ocs A.ecs [.exo A.c_BadBook "place" q, .tup [.cls A.c_BadPeople, .cls A.c_BadLot, .cls A.c_BadRow, .cls A.c_BadWish, .cls A.c_BadNumber]] = some (.bl false) := isi_tup (cs := [A.c_BadPeople, A.c_BadLot, A.c_BadRow, A.c_BadWish, A.c_BadNumber]) mem_BadBook (kitAny5 X.x4_1 X.x4_2 X.x4_5 X.x4_6 X.x4_7)
  have h1 : isiF K A.ocs A.ecs [.exo A.c_BadBook "place" q, .cls A.c_BadText] = some (.bl false) := isi_one mem_BadBook X.x4_9
  have hx : exfF [A.c_BadClause, A.c_BadBook, A.c_BadPaper] "place" (.exo A.c_BadBook "place" q) = some q := by
    show (if A.c_BadBook ∈ [A.c_BadClause, A.c_BadBook, A.c_BadPaper] then (if ("place" : Str) = "place" then some q else none) else none) = _
    rw [if_pos (by simp), if_pos rfl]
  simp only [sSeq, sAsg, sRet, sIf, sNil, dLst, dCons, dNil, dCall, dVar, dC, dBin, dFn, dUn, dTup, bOf, bOr, dIf, Mo.bnd, Mo.ret, Mo.opt, bindT, asB, fin, startD, List.map_cons, List.map_nil, List.cons_append, List.nil_append, List.getD_cons_zero, List.getD_cons_succ, List.set_cons_zero, List.set_cons_succ, List.length_cons, List.length_nil, List.replicate_succ, List.replicate_zero, Nat.add_one_sub_one, Nat.sub_self, Nat.zero_add, Nat.reduceAdd, Nat.reduceSub, if_true, Bool.false_eq_true, if_false, sl0, sl3, sl4, sl5, sl7, sl8, sl10, sl1, sl2', addF_lst, g__law_field, fb__law_field, h3, h5, h1, hx]
theorem kinds_BadBook (X : Kit K A) (q : D) (m : M) : g__law_kinds K A [.exo A.c_BadBook "place" q] m = .ok (.lst [.bl false, .bl false, .bl false, .bl true, .bl false, .bl false, .bl false, .bl false, .bl false, .bl false]) m := by
  have h1 : isiF K A.ocs A.ecs [.exo A.c_BadBook "place" q, .cls A.c_BadPeople] = some (.bl false) := isi_one mem_BadBook X.x4_1
  have h2 : isiF K A.ocs A.ecs [.exo A.c_BadBook "place" q, .cls A.c_BadLot] = some (.bl false) := isi_one mem_BadBook X.x4_2
  have h3 : isiF K A.ocs A.ecs [.exo A.c_BadBook "place" q, .cls A.c_BadClause] = some (.bl false) := isi_one mem_BadBook X.x4_3
  have h4 : isiF K A.ocs A.ecs [.exo A.c_BadBook "place" q, .cls A.c_BadBook] = some (.bl true) := isi_one mem_BadBook X.x4_4
  have h5 : isiF K A.ocs A.ecs [.exo A.c_BadBook "place" q, .cls A.c_BadRow] = some (.bl false) := isi_one mem_BadBook X.x4_5
  have h6 : isiF K A.ocs A.ecs [.exo A.c_BadBook "place" q, .cls A.c_BadWish] = some (.bl false) := isi_one mem_BadBook X.x4_6
  have h7 : isiF K A.ocs A.ecs [.exo A.c_BadBook "place" q, .cls A.c_BadNumber] = some (.bl false) := isi_one mem_BadBook X.x4_7
  have h8 : isiF K A.ocs A.ecs [.exo A.c_BadBook "place" q, .cls A.c_BadPaper] = some (.bl false) := isi_one mem_BadBook X.x4_8
  have h9 : isiF K A.ocs A.ecs [.exo A.c_BadBook "place" q, .cls A.c_BadText] = some (.bl false) := isi_one mem_BadBook X.x4_9
  have h10 : isiF K A.ocs A.ecs [.exo A.c_BadBook "place" q, .cls A.c_TooMany] = some (.bl false) := isi_one mem_BadBook X.x4_10
  simp only [sSeq, sAsg, sRet, sIf, sNil, dLst, dCons, dNil, dCall, dVar, dC, dBin, dFn, dUn, dTup, bOf, bOr, dIf, Mo.bnd, Mo.ret, Mo.opt, bindT, asB, fin, startD, List.map_cons, List.map_nil, List.cons_append, List.nil_append, List.getD_cons_zero, List.getD_cons_succ, List.set_cons_zero, List.set_cons_succ, List.length_cons, List.length_nil, List.replicate_succ, List.replicate_zero, Nat.add_one_sub_one, Nat.sub_self, Nat.zero_add, Nat.reduceAdd, Nat.reduceSub, if_true, Bool.false_eq_true, if_false, sl0, sl3, sl4, sl5, sl7, sl8, sl10, sl1, sl2', addF_lst, g__law_kinds, fb__law_kinds, h1, h2, h3, h4, h5, h6, h7, h8, h9, h10]
theorem mem_BadRow : A.c_BadRow ∈ A.ecs := by simp [Adr.ecs]
theorem field_BadRow (X : Kit K A) (q : D) (m : M) : g__law_field K A [.exo A.c_BadRow "value" q] m = .ok q m := by
  have h3 : isiF K A.ocs A.ecs [.exo A.c_BadRow "value" q, .tup [.cls A.c_BadClause, .cls A.c_BadBook, .cls A.c_BadPaper]] = some (.bl false) := isi_tup (cs := [A.c_BadClause, A.c_BadBook, A.c_BadPaper]) mem_BadRow (kitAny3 X.x5_3 X.x5_4 X.x5_8)
  have h5 : isiF K A.ocs A.ecs [.exo A.c_BadRow "value" q, .tup [.cls A.c_BadPeople, .cls A.c_BadLot, .cls A.c_BadRow, .cls A.c_BadWish, .cls A.c_BadNumber]] = some (.bl true) := isi_tup (cs := [A.c_BadPeople, A.c_BadLot, A.c_BadRow, A.c_BadWish, A.c_BadNumber]) mem_BadRow (kitAny5 X.x5_1 X.x5_2 X.x5_5 X.x5_6 X.x5_7)
  have h1 : isiF K A.ocs A.ecs [.exo A.c_BadRow "value" q, .cls A.c_BadText] = some (.bl false) := isi_one mem_BadRow X.x5_9
  have hx : exfF [A.c_BadPeople, A.c_BadLot, A.c_BadRow, A.c_BadWish, A.c_BadNumber] "value" (.exo A.c_BadRow "value" q) = some q := by
    show (if A.c_BadRow ∈ [A.c_BadPeople, A.c_BadLot, A.c_BadRow, A.c_BadWish, A.c_BadNumber] then (if ("value" : Str) = "value" then some q else none) else none) = _
    rw [if_pos (by simp), if_pos rfl]
  simp only [sSeq, sAsg, sRet, sIf, sNil, dLst, dCons, dNil, dCall, dVar, dC, dBin, dFn, dUn, dTup, bOf, bOr, dIf, Mo.bnd, Mo.ret, Mo.opt, bindT, asB, fin, startD, List.map_cons, List.map_nil, List.cons_append, List.nil_append, List.getD_cons_zero, List.getD_cons_succ, List.set_cons_zero, List.set_cons_succ, List.length_cons, List.length_nil, List.replicate_succ, List.replicate_zero, Nat.add_one_sub_one, Nat.sub_self, Nat.zero_add, Nat.reduceAdd, Nat.reduceSub, if_true, Bool.false_eq_true, if_false, sl0, sl3, sl4, sl5, sl7, sl8, sl10, sl1, sl2', addF_lst, g__law_field, fb__law_field, h3, h5, h1, hx]
theorem kinds_BadRow (X : Kit K A) (q : D) (m : M) : g__law_kinds K A [.exo A.c_BadRow "value" q] m = .ok (.lst [.bl false, .bl false, .bl false, .bl false, .bl true, .bl false, .bl false, .bl false, .bl false, .bl false]) m := by
  have h1 : isiF K A.ocs A.ecs [.exo A.c_BadRow "value" q, .cls A.c_BadPeople] = some (.bl false) := isi_one mem_BadRow X.x5_1
  have h2 : isiF K A.ocs A.ecs [.exo A.c_BadRow "value" q, .cls A.c_BadLot] = some (.bl false) := isi_one mem_BadRow X.x5_2
  have h3 : isiF K A.ocs A.ecs [.exo A.c_BadRow "value" q, .cls A.c_BadClause] = some (.bl false) := isi_one mem_BadRow X.x5_3
  have h4 : isiF K A.ocs A.ecs [.exo A.c_BadRow "value" q, .cls A.c_BadBook] = some (.bl false) := isi_one mem_BadRow X.x5_4
  have h5 : isiF K A.ocs A.ecs [.exo A.c_BadRow "value" q, .cls A.c_BadRow] = some (.bl true) := isi_one mem_BadRow X.x5_5
  have h6 : isiF K A.ocs A.ecs [.exo A.c_BadRow "value" q, .cls A.c_BadWish] = some (.bl false) := isi_one mem_BadRow X.x5_6
  have h7 : isiF K A.ocs A.ecs [.exo A.c_BadRow "value" q, .cls A.c_BadNumber] = some (.bl false) := isi_one mem_BadRow X.x5_7
  have h8 : isiF K A.ocs A.ecs [.exo A.c_BadRow "value" q, .cls A.c_BadPaper] = some (.bl false) := isi_one mem_BadRow X.x5_8
  have h9 : isiF K A.ocs A.ecs [.exo A.c_BadRow "value" q, .cls A.c_BadText] = some (.bl false) := isi_one mem_BadRow X.x5_9
  have h10 : isiF K A.ocs A.ecs [.exo A.c_BadRow "value" q, .cls A.c_TooMany] = some (.bl false) := isi_one mem_BadRow X.x5_10
  simp only [sSeq, sAsg, sRet, sIf, sNil, dLst, dCons, dNil, dCall, dVar, dC, dBin, dFn, dUn, dTup, bOf, bOr, dIf, Mo.bnd, Mo.ret, Mo.opt, bindT, asB, fin, startD, List.map_cons, List.map_nil, List.cons_append, List.nil_append, List.getD_cons_zero, List.getD_cons_succ, List.set_cons_zero, List.set_cons_succ, List.length_cons, List.length_nil, List.replicate_succ, List.replicate_zero, Nat.add_one_sub_one, Nat.sub_self, Nat.zero_add, Nat.reduceAdd, Nat.reduceSub, if_true, Bool.false_eq_true, if_false, sl0, sl3, sl4, sl5, sl7, sl8, sl10, sl1, sl2', addF_lst, g__law_kinds, fb__law_kinds, h1, h2, h3, h4, h5, h6, h7, h8, h9, h10]
theorem mem_BadWish : A.c_BadWish ∈ A.ecs := by simp [Adr.ecs]
theorem field_BadWish (X : Kit K A) (q : D) (m : M) : g__law_field K A [.exo A.c_BadWish "value" q] m = .ok q m := by
  have h3 : isiF K A.ocs A.ecs [.exo A.c_BadWish "value" q, .tup [.cls A.c_BadClause, .cls A.c_BadBook, .cls A.c_BadPaper]] = some (.bl false) := isi_tup (cs := [A.c_BadClause, A.c_BadBook, A.c_BadPaper]) mem_BadWish (kitAny3 X.x6_3 X.x6_4 X.x6_8)
  have h5 : isiF K A.ocs A.ecs [.exo A.c_BadWish "value" q, .tup [.cls A.c_BadPeople, .cls A.c_BadLot, .cls A.c_BadRow, .cls A.c_BadWish, .cls A.c_BadNumber]] = some (.bl true) := isi_tup (cs := [A.c_BadPeople, A.c_BadLot, A.c_BadRow, A.c_BadWish, A.c_BadNumber]) mem_BadWish (kitAny5 X.x6_1 X.x6_2 X.x6_5 X.x6_6 X.x6_7)
  have h1 : isiF K A.ocs A.ecs [.exo A.c_BadWish "value" q, .cls A.c_BadText] = some (.bl false) := isi_one mem_BadWish X.x6_9
  have hx : exfF [A.c_BadPeople, A.c_BadLot, A.c_BadRow, A.c_BadWish, A.c_BadNumber] "value" (.exo A.c_BadWish "value" q) = some q := by
    show (if A.c_BadWish ∈ [A.c_BadPeople, A.c_BadLot, A.c_BadRow, A.c_BadWish, A.c_BadNumber] then (if ("value" : Str) = "value" then some q else none) else none) = _
    rw [if_pos (by simp), if_pos rfl]
  simp only [sSeq, sAsg, sRet, sIf, sNil, dLst, dCons, dNil, dCall, dVar, dC, dBin, dFn, dUn, dTup, bOf, bOr, dIf, Mo.bnd, Mo.ret, Mo.opt, bindT, asB, fin, startD, List.map_cons, List.map_nil, List.cons_append, List.nil_append, List.getD_cons_zero, List.getD_cons_succ, List.set_cons_zero, List.set_cons_succ, List.length_cons, List.length_nil, List.replicate_succ, List.replicate_zero, Nat.add_one_sub_one, Nat.sub_self, Nat.zero_add, Nat.reduceAdd, Nat.reduceSub, if_true, Bool.false_eq_true, if_false, sl0, sl3, sl4, sl5, sl7, sl8, sl10, sl1, sl2', addF_lst, g__law_field, fb__law_field, h3, h5, h1, hx]
theorem kinds_BadWish (X : Kit K A) (q : D) (m : M) : g__law_kinds K A [.exo A.c_BadWish "value" q] m = .ok (.lst [.bl false, .bl false, .bl false, .bl false, .bl false, .bl true, .bl false, .bl false, .bl false, .bl false]) m := by
  have h1 : isiF K A.ocs A.ecs [.exo A.c_BadWish "value" q, .cls A.c_BadPeople] = some (.bl false) := isi_one mem_BadWish X.x6_1
  have h2 : isiF K A.ocs A.ecs [.exo A.c_BadWish "value" q, .cls A.c_BadLot] = some (.bl false) := isi_one mem_BadWish X.x6_2
  have h3 : isiF K A.ocs A.ecs [.exo A.c_BadWish "value" q, .cls A.c_BadClause] = some (.bl false) := isi_one mem_BadWish X.x6_3
  have h4 : isiF K A.ocs A.ecs [.exo A.c_BadWish "value" q, .cls A.c_BadBook] = some (.bl false) := isi_one mem_BadWish X.x6_4
  have h5 : isiF K A.ocs A.ecs [.exo A.c_BadWish "value" q, .cls A.c_BadRow] = some (.bl false) := isi_one mem_BadWish X.x6_5
  have h6 : isiF K A.ocs A.ecs [.exo A.c_BadWish "value" q, .cls A.c_BadWish] = some (.bl true) := isi_one mem_BadWish X.x6_6
  have h7 : isiF K A.ocs A.ecs [.exo A.c_BadWish "value" q, .cls A.c_BadNumber] = some (.bl false) := isi_one mem_BadWish X.x6_7
  have h8 : isiF K A.ocs A.ecs [.exo A.c_BadWish "value" q, .cls A.c_BadPaper] = some (.bl false) := isi_one mem_BadWish X.x6_8
  have h9 : isiF K A.ocs A.ecs [.exo A.c_BadWish "value" q, .cls A.c_BadText] = some (.bl false) := isi_one mem_BadWish X.x6_9
  have h10 : isiF K A.ocs A.ecs [.exo A.c_BadWish "value" q, .cls A.c_TooMany] = some (.bl false) := isi_one mem_BadWish X.x6_10
  simp only [sSeq, sAsg, sRet, sIf, sNil, dLst, dCons, dNil, dCall, dVar, dC, dBin, dFn, dUn, dTup, bOf, bOr, dIf, Mo.bnd, Mo.ret, Mo.opt, bindT, asB, fin, startD, List.map_cons, List.map_nil, List.cons_append, List.nil_append, List.getD_cons_zero, List.getD_cons_succ, List.set_cons_zero, List.set_cons_succ, List.length_cons, List.length_nil, List.replicate_succ, List.replicate_zero, Nat.add_one_sub_one, Nat.sub_self, Nat.zero_add, Nat.reduceAdd, Nat.reduceSub, if_true, Bool.false_eq_true, if_false, sl0, sl3, sl4, sl5, sl7, sl8, sl10, sl1, sl2', addF_lst, g__law_kinds, fb__law_kinds, h1, h2, h3, h4, h5, h6, h7, h8, h9, h10]
theorem mem_BadNumber : A.c_BadNumber ∈ A.ecs := by simp [Adr.ecs]
theorem field_BadNumber (X : Kit K A) (q : D) (m : M) : g__law_field K A [.exo A.c_BadNumber "value" q] m = .ok q m := by
  have h3 : isiF K A.ocs A.ecs [.exo A.c_BadNumber "value" q, .tup [.cls A.c_BadClause, .cls A.c_BadBook, .cls A.c_BadPaper]] = some (.bl false) := isi_tup (cs := [A.c_BadClause, A.c_BadBook, A.c_BadPaper]) mem_BadNumber (kitAny3 X.x7_3 X.x7_4 X.x7_8)
  have h5 : isiF K A.ocs A.ecs [.exo A.c_BadNumber "value" q, .tup [.cls A.c_BadPeople, .cls A.c_BadLot, .cls A.c_BadRow, .cls A.c_BadWish, .cls A.c_BadNumber]] = some (.bl true) := isi_tup (cs := [A.c_BadPeople, A.c_BadLot, A.c_BadRow, A.c_BadWish, A.c_BadNumber]) mem_BadNumber (kitAny5 X.x7_1 X.x7_2 X.x7_5 X.x7_6 X.x7_7)
  have h1 : isiF K A.ocs A.ecs [.exo A.c_BadNumber "value" q, .cls A.c_BadText] = some (.bl false) := isi_one mem_BadNumber X.x7_9
  have hx : exfF [A.c_BadPeople, A.c_BadLot, A.c_BadRow, A.c_BadWish, A.c_BadNumber] "value" (.exo A.c_BadNumber "value" q) = some q := by
    show (if A.c_BadNumber ∈ [A.c_BadPeople, A.c_BadLot, A.c_BadRow, A.c_BadWish, A.c_BadNumber] then (if ("value" : Str) = "value" then some q else none) else none) = _
    rw [if_pos (by simp), if_pos rfl]
  simp only [sSeq, sAsg, sRet, sIf, sNil, dLst, dCons, dNil, dCall, dVar, dC, dBin, dFn, dUn, dTup, bOf, bOr, dIf, Mo.bnd, Mo.ret, Mo.opt, bindT, asB, fin, startD, List.map_cons, List.map_nil, List.cons_append, List.nil_append, List.getD_cons_zero, List.getD_cons_succ, List.set_cons_zero, List.set_cons_succ, List.length_cons, List.length_nil, List.replicate_succ, List.replicate_zero, Nat.add_one_sub_one, Nat.sub_self, Nat.zero_add, Nat.reduceAdd, Nat.reduceSub, if_true, Bool.false_eq_true, if_false, sl0, sl3, sl4, sl5, sl7, sl8, sl10, sl1, sl2', addF_lst, g__law_field, fb__law_field, h3, h5, h1, hx]
theorem kinds_BadNumber (X : Kit K A) (q : D) (m : M) : g__law_kinds K A [.exo A.c_BadNumber "value" q] m = .ok (.lst [.bl false, .bl false, .bl false, .bl false, .bl false, .bl false, .bl true, .bl false, .bl false, .bl false]) m := by
  have h1 : isiF K A.ocs A.ecs [.exo A.c_BadNumber "value" q, .cls A.c_BadPeople] = some (.bl false) := isi_one mem_BadNumber X.x7_1
  have h2 : isiF K A.ocs A.ecs [.exo A.c_BadNumber "value" q, .cls A.c_BadLot] = some (.bl false) := isi_one mem_BadNumber X.x7_2
  have h3 : isiF K A.ocs A.ecs [.exo A.c_BadNumber "value" q, .cls A.c_BadClause] = some (.bl false) := isi_one mem_BadNumber X.x7_3
  have h4 : isiF K A.ocs A.ecs [.exo A.c_BadNumber "value" q, .cls A.c_BadBook] = some (.bl false) := isi_one mem_BadNumber X.x7_4
  have h5 : isiF K A.ocs A.ecs [.exo A.c_BadNumber "value" q, .cls A.c_BadRow] = some (.bl false) := isi_one mem_BadNumber X.x7_5
  have h6 : isiF K A.ocs A.ecs [.exo A.c_BadNumber "value" q, .cls A.c_BadWish] = some (.bl false) := isi_one mem_BadNumber X.x7_6
  have h7 : isiF K A.ocs A.ecs [.exo A.c_BadNumber "value" q, .cls A.c_BadNumber] = some (.bl true) := isi_one mem_BadNumber X.x7_7
  have h8 : isiF K A.ocs A.ecs [.exo A.c_BadNumber "value" q, .cls A.c_BadPaper] = some (.bl false) := isi_one mem_BadNumber X.x7_8
  have h9 : isiF K A.ocs A.ecs [.exo A.c_BadNumber "value" q, .cls A.c_BadText] = some (.bl false) := isi_one mem_BadNumber X.x7_9
  have h10 : isiF K A.ocs A.ecs [.exo A.c_BadNumber "value" q, .cls A.c_TooMany] = some (.bl false) := isi_one mem_BadNumber X.x7_10
  simp only [sSeq, sAsg, sRet, sIf, sNil, dLst, dCons, dNil, dCall, dVar, dC, dBin, dFn, dUn, dTup, bOf, bOr, dIf, Mo.bnd, Mo.ret, Mo.opt, bindT, asB, fin, startD, List.map_cons, List.map_nil, List.cons_append, List.nil_append, List.getD_cons_zero, List.getD_cons_succ, List.set_cons_zero, List.set_cons_succ, List.length_cons, List.length_nil, List.replicate_succ, List.replicate_zero, Nat.add_one_sub_one, Nat.sub_self, Nat.zero_add, Nat.reduceAdd, Nat.reduceSub, if_true, Bool.false_eq_true, if_false, sl0, sl3, sl4, sl5, sl7, sl8, sl10, sl1, sl2', addF_lst, g__law_kinds, fb__law_kinds, h1, h2, h3, h4, h5, h6, h7, h8, h9, h10]
theorem mem_BadPaper : A.c_BadPaper ∈ A.ecs := by simp [Adr.ecs]
theorem field_BadPaper (X : Kit K A) (q : D) (m : M) : g__law_field K A [.exo A.c_BadPaper "place" q] m = .ok q m := by
  have h3 : isiF K A.ocs A.ecs [.exo A.c_BadPaper "place" q, .tup [.cls A.c_BadClause, .cls A.c_BadBook, .cls A.c_BadPaper]] = some (.bl true) := isi_tup (cs := [A.c_BadClause, A.c_BadBook, A.c_BadPaper]) mem_BadPaper (kitAny3 X.x8_3 X.x8_4 X.x8_8)
  have h5 : isiF K A.ocs A.ecs [.exo A.c_BadPaper "place" q, .tup [.cls A.c_BadPeople, .cls A.c_BadLot, .cls A.c_BadRow, .cls A.c_BadWish, .cls A.c_BadNumber]] = some (.bl false) := isi_tup (cs := [A.c_BadPeople, A.c_BadLot, A.c_BadRow, A.c_BadWish, A.c_BadNumber]) mem_BadPaper (kitAny5 X.x8_1 X.x8_2 X.x8_5 X.x8_6 X.x8_7)
  have h1 : isiF K A.ocs A.ecs [.exo A.c_BadPaper "place" q, .cls A.c_BadText] = some (.bl false) := isi_one mem_BadPaper X.x8_9
  have hx : exfF [A.c_BadClause, A.c_BadBook, A.c_BadPaper] "place" (.exo A.c_BadPaper "place" q) = some q := by
    show (if A.c_BadPaper ∈ [A.c_BadClause, A.c_BadBook, A.c_BadPaper] then (if ("place" : Str) = "place" then some q else none) else none) = _
    rw [if_pos (by simp), if_pos rfl]
  simp only [sSeq, sAsg, sRet, sIf, sNil, dLst, dCons, dNil, dCall, dVar, dC, dBin, dFn, dUn, dTup, bOf, bOr, dIf, Mo.bnd, Mo.ret, Mo.opt, bindT, asB, fin, startD, List.map_cons, List.map_nil, List.cons_append, List.nil_append, List.getD_cons_zero, List.getD_cons_succ, List.set_cons_zero, List.set_cons_succ, List.length_cons, List.length_nil, List.replicate_succ, List.replicate_zero, Nat.add_one_sub_one, Nat.sub_self, Nat.zero_add, Nat.reduceAdd, Nat.reduceSub, if_true, Bool.false_eq_true, if_false, sl0, sl3, sl4, sl5, sl7, sl8, sl10, sl1, sl2', addF_lst, g__law_field, fb__law_field, h3, h5, h1, hx]
theorem kinds_BadPaper (X : Kit K A) (q : D) (m : M) : g__law_kinds K A [.exo A.c_BadPaper "place" q] m = .ok (.lst [.bl false, .bl false, .bl false, .bl false, .bl false, .bl false, .bl false, .bl true, .bl false, .bl false]) m := by
  have h1 : isiF K A.ocs A.ecs [.exo A.c_BadPaper "place" q, .cls A.c_BadPeople] = some (.bl false) := isi_one mem_BadPaper X.x8_1
  have h2 : isiF K A.ocs A.ecs [.exo A.c_BadPaper "place" q, .cls A.c_BadLot] = some (.bl false) := isi_one mem_BadPaper X.x8_2
  have h3 : isiF K A.ocs A.ecs [.exo A.c_BadPaper "place" q, .cls A.c_BadClause] = some (.bl false) := isi_one mem_BadPaper X.x8_3
  have h4 : isiF K A.ocs A.ecs [.exo A.c_BadPaper "place" q, .cls A.c_BadBook] = some (.bl false) := isi_one mem_BadPaper X.x8_4
  have h5 : isiF K A.ocs A.ecs [.exo A.c_BadPaper "place" q, .cls A.c_BadRow] = some (.bl false) := isi_one mem_BadPaper X.x8_5
  have h6 : isiF K A.ocs A.ecs [.exo A.c_BadPaper "place" q, .cls A.c_BadWish] = some (.bl false) := isi_one mem_BadPaper X.x8_6
  have h7 : isiF K A.ocs A.ecs [.exo A.c_BadPaper "place" q, .cls A.c_BadNumber] = some (.bl false) := isi_one mem_BadPaper X.x8_7
  have h8 : isiF K A.ocs A.ecs [.exo A.c_BadPaper "place" q, .cls A.c_BadPaper] = some (.bl true) := isi_one mem_BadPaper X.x8_8
  have h9 : isiF K A.ocs A.ecs [.exo A.c_BadPaper "place" q, .cls A.c_BadText] = some (.bl false) := isi_one mem_BadPaper X.x8_9
  have h10 : isiF K A.ocs A.ecs [.exo A.c_BadPaper "place" q, .cls A.c_TooMany] = some (.bl false) := isi_one mem_BadPaper X.x8_10
  simp only [sSeq, sAsg, sRet, sIf, sNil, dLst, dCons, dNil, dCall, dVar, dC, dBin, dFn, dUn, dTup, bOf, bOr, dIf, Mo.bnd, Mo.ret, Mo.opt, bindT, asB, fin, startD, List.map_cons, List.map_nil, List.cons_append, List.nil_append, List.getD_cons_zero, List.getD_cons_succ, List.set_cons_zero, List.set_cons_succ, List.length_cons, List.length_nil, List.replicate_succ, List.replicate_zero, Nat.add_one_sub_one, Nat.sub_self, Nat.zero_add, Nat.reduceAdd, Nat.reduceSub, if_true, Bool.false_eq_true, if_false, sl0, sl3, sl4, sl5, sl7, sl8, sl10, sl1, sl2', addF_lst, g__law_kinds, fb__law_kinds, h1, h2, h3, h4, h5, h6, h7, h8, h9, h10]
theorem mem_BadText : A.c_BadText ∈ A.ecs := by simp [Adr.ecs]
theorem field_BadText (X : Kit K A) (q : D) (m : M) : g__law_field K A [.exo A.c_BadText "line" q] m = .ok q m := by
  have h3 : isiF K A.ocs A.ecs [.exo A.c_BadText "line" q, .tup [.cls A.c_BadClause, .cls A.c_BadBook, .cls A.c_BadPaper]] = some (.bl false) := isi_tup (cs := [A.c_BadClause, A.c_BadBook, A.c_BadPaper]) mem_BadText (kitAny3 X.x9_3 X.x9_4 X.x9_8)
  have h5 : isiF K A.ocs A.ecs [.exo A.c_BadText "line" q, .tup [.cls A.c_BadPeople, .cls A.c_BadLot, .cls A.c_BadRow, .cls A.c_BadWish, .cls A.c_BadNumber]] = some (.bl false) := isi_tup (cs := [A.c_BadPeople, A.c_BadLot, A.c_BadRow, A.c_BadWish, A.c_BadNumber]) mem_BadText (kitAny5 X.x9_1 X.x9_2 X.x9_5 X.x9_6 X.x9_7)
  have h1 : isiF K A.ocs A.ecs [.exo A.c_BadText "line" q, .cls A.c_BadText] = some (.bl true) := isi_one mem_BadText X.x9_9
  have hx : exfF [A.c_BadText] "line" (.exo A.c_BadText "line" q) = some q := by
    show (if A.c_BadText ∈ [A.c_BadText] then (if ("line" : Str) = "line" then some q else none) else none) = _
    rw [if_pos (by simp), if_pos rfl]
  simp only [sSeq, sAsg, sRet, sIf, sNil, dLst, dCons, dNil, dCall, dVar, dC, dBin, dFn, dUn, dTup, bOf, bOr, dIf, Mo.bnd, Mo.ret, Mo.opt, bindT, asB, fin, startD, List.map_cons, List.map_nil, List.cons_append, List.nil_append, List.getD_cons_zero, List.getD_cons_succ, List.set_cons_zero, List.set_cons_succ, List.length_cons, List.length_nil, List.replicate_succ, List.replicate_zero, Nat.add_one_sub_one, Nat.sub_self, Nat.zero_add, Nat.reduceAdd, Nat.reduceSub, if_true, Bool.false_eq_true, if_false, sl0, sl3, sl4, sl5, sl7, sl8, sl10, sl1, sl2', addF_lst, g__law_field, fb__law_field, h3, h5, h1, hx]
theorem kinds_BadText (X : Kit K A) (q : D) (m : M) : g__law_kinds K A [.exo A.c_BadText "line" q] m = .ok (.lst [.bl false, .bl false, .bl false, .bl false, .bl false, .bl false, .bl false, .bl false, .bl true, .bl false]) m := by
  have h1 : isiF K A.ocs A.ecs [.exo A.c_BadText "line" q, .cls A.c_BadPeople] = some (.bl false) := isi_one mem_BadText X.x9_1
  have h2 : isiF K A.ocs A.ecs [.exo A.c_BadText "line" q, .cls A.c_BadLot] = some (.bl false) := isi_one mem_BadText X.x9_2
  have h3 : isiF K A.ocs A.ecs [.exo A.c_BadText "line" q, .cls A.c_BadClause] = some (.bl false) := isi_one mem_BadText X.x9_3
  have h4 : isiF K A.ocs A.ecs [.exo A.c_BadText "line" q, .cls A.c_BadBook] = some (.bl false) := isi_one mem_BadText X.x9_4
  have h5 : isiF K A.ocs A.ecs [.exo A.c_BadText "line" q, .cls A.c_BadRow] = some (.bl false) := isi_one mem_BadText X.x9_5
  have h6 : isiF K A.ocs A.ecs [.exo A.c_BadText "line" q, .cls A.c_BadWish] = some (.bl false) := isi_one mem_BadText X.x9_6
  have h7 : isiF K A.ocs A.ecs [.exo A.c_BadText "line" q, .cls A.c_BadNumber] = some (.bl false) := isi_one mem_BadText X.x9_7
  have h8 : isiF K A.ocs A.ecs [.exo A.c_BadText "line" q, .cls A.c_BadPaper] = some (.bl false) := isi_one mem_BadText X.x9_8
  have h9 : isiF K A.ocs A.ecs [.exo A.c_BadText "line" q, .cls A.c_BadText] = some (.bl true) := isi_one mem_BadText X.x9_9
  have h10 : isiF K A.ocs A.ecs [.exo A.c_BadText "line" q, .cls A.c_TooMany] = some (.bl false) := isi_one mem_BadText X.x9_10
  simp only [sSeq, sAsg, sRet, sIf, sNil, dLst, dCons, dNil, dCall, dVar, dC, dBin, dFn, dUn, dTup, bOf, bOr, dIf, Mo.bnd, Mo.ret, Mo.opt, bindT, asB, fin, startD, List.map_cons, List.map_nil, List.cons_append, List.nil_append, List.getD_cons_zero, List.getD_cons_succ, List.set_cons_zero, List.set_cons_succ, List.length_cons, List.length_nil, List.replicate_succ, List.replicate_zero, Nat.add_one_sub_one, Nat.sub_self, Nat.zero_add, Nat.reduceAdd, Nat.reduceSub, if_true, Bool.false_eq_true, if_false, sl0, sl3, sl4, sl5, sl7, sl8, sl10, sl1, sl2', addF_lst, g__law_kinds, fb__law_kinds, h1, h2, h3, h4, h5, h6, h7, h8, h9, h10]
theorem mem_TooMany : A.c_TooMany ∈ A.ecs := by simp [Adr.ecs]
theorem field_TooMany (X : Kit K A) (q : D) (m : M) : g__law_field K A [.exo A.c_TooMany "most" q] m = .ok q m := by
  have h3 : isiF K A.ocs A.ecs [.exo A.c_TooMany "most" q, .tup [.cls A.c_BadClause, .cls A.c_BadBook, .cls A.c_BadPaper]] = some (.bl false) := isi_tup (cs := [A.c_BadClause, A.c_BadBook, A.c_BadPaper]) mem_TooMany (kitAny3 X.x10_3 X.x10_4 X.x10_8)
  have h5 : isiF K A.ocs A.ecs [.exo A.c_TooMany "most" q, .tup [.cls A.c_BadPeople, .cls A.c_BadLot, .cls A.c_BadRow, .cls A.c_BadWish, .cls A.c_BadNumber]] = some (.bl false) := isi_tup (cs := [A.c_BadPeople, A.c_BadLot, A.c_BadRow, A.c_BadWish, A.c_BadNumber]) mem_TooMany (kitAny5 X.x10_1 X.x10_2 X.x10_5 X.x10_6 X.x10_7)
  have h1 : isiF K A.ocs A.ecs [.exo A.c_TooMany "most" q, .cls A.c_BadText] = some (.bl false) := isi_one mem_TooMany X.x10_9
  have hx : exfF [A.c_TooMany] "most" (.exo A.c_TooMany "most" q) = some q := by
    show (if A.c_TooMany ∈ [A.c_TooMany] then (if ("most" : Str) = "most" then some q else none) else none) = _
    rw [if_pos (by simp), if_pos rfl]
  simp only [sSeq, sAsg, sRet, sIf, sNil, dLst, dCons, dNil, dCall, dVar, dC, dBin, dFn, dUn, dTup, bOf, bOr, dIf, Mo.bnd, Mo.ret, Mo.opt, bindT, asB, fin, startD, List.map_cons, List.map_nil, List.cons_append, List.nil_append, List.getD_cons_zero, List.getD_cons_succ, List.set_cons_zero, List.set_cons_succ, List.length_cons, List.length_nil, List.replicate_succ, List.replicate_zero, Nat.add_one_sub_one, Nat.sub_self, Nat.zero_add, Nat.reduceAdd, Nat.reduceSub, if_true, Bool.false_eq_true, if_false, sl0, sl3, sl4, sl5, sl7, sl8, sl10, sl1, sl2', addF_lst, g__law_field, fb__law_field, h3, h5, h1, hx]
theorem kinds_TooMany (X : Kit K A) (q : D) (m : M) : g__law_kinds K A [.exo A.c_TooMany "most" q] m = .ok (.lst [.bl false, .bl false, .bl false, .bl false, .bl false, .bl false, .bl false, .bl false, .bl false, .bl true]) m := by
  have h1 : isiF K A.ocs A.ecs [.exo A.c_TooMany "most" q, .cls A.c_BadPeople] = some (.bl false) := isi_one mem_TooMany X.x10_1
  have h2 : isiF K A.ocs A.ecs [.exo A.c_TooMany "most" q, .cls A.c_BadLot] = some (.bl false) := isi_one mem_TooMany X.x10_2
  have h3 : isiF K A.ocs A.ecs [.exo A.c_TooMany "most" q, .cls A.c_BadClause] = some (.bl false) := isi_one mem_TooMany X.x10_3
  have h4 : isiF K A.ocs A.ecs [.exo A.c_TooMany "most" q, .cls A.c_BadBook] = some (.bl false) := isi_one mem_TooMany X.x10_4
  have h5 : isiF K A.ocs A.ecs [.exo A.c_TooMany "most" q, .cls A.c_BadRow] = some (.bl false) := isi_one mem_TooMany X.x10_5
  have h6 : isiF K A.ocs A.ecs [.exo A.c_TooMany "most" q, .cls A.c_BadWish] = some (.bl false) := isi_one mem_TooMany X.x10_6
  have h7 : isiF K A.ocs A.ecs [.exo A.c_TooMany "most" q, .cls A.c_BadNumber] = some (.bl false) := isi_one mem_TooMany X.x10_7
  have h8 : isiF K A.ocs A.ecs [.exo A.c_TooMany "most" q, .cls A.c_BadPaper] = some (.bl false) := isi_one mem_TooMany X.x10_8
  have h9 : isiF K A.ocs A.ecs [.exo A.c_TooMany "most" q, .cls A.c_BadText] = some (.bl false) := isi_one mem_TooMany X.x10_9
  have h10 : isiF K A.ocs A.ecs [.exo A.c_TooMany "most" q, .cls A.c_TooMany] = some (.bl true) := isi_one mem_TooMany X.x10_10
  simp only [sSeq, sAsg, sRet, sIf, sNil, dLst, dCons, dNil, dCall, dVar, dC, dBin, dFn, dUn, dTup, bOf, bOr, dIf, Mo.bnd, Mo.ret, Mo.opt, bindT, asB, fin, startD, List.map_cons, List.map_nil, List.cons_append, List.nil_append, List.getD_cons_zero, List.getD_cons_succ, List.set_cons_zero, List.set_cons_succ, List.length_cons, List.length_nil, List.replicate_succ, List.replicate_zero, Nat.add_one_sub_one, Nat.sub_self, Nat.zero_add, Nat.reduceAdd, Nat.reduceSub, if_true, Bool.false_eq_true, if_false, sl0, sl3, sl4, sl5, sl7, sl8, sl10, sl1, sl2', addF_lst, g__law_kinds, fb__law_kinds, h1, h2, h3, h4, h5, h6, h7, h8, h9, h10]
def ib (K : PySem.W.Frag) (A : Adr) : DEnv → Mo DM Fl := (sSeq (sIf (bOr (bOf (dBin neF (dCall reprF (dCons (dFn (g__law_field K A) (dCons (dVar 7) dNil)) dNil)) (dCall reprF (dCons (dVar 3) dNil)))) (bOf (dBin neF (dCall reprF (dCons (dFn (g__law_field K A) (dCons (dBin ixF (dVar 5) (dVar 6)) dNil)) dNil)) (dCall reprF (dCons (dVar 3) dNil))))) (sRet (dC (.bl false))) sNil) (sSeq (sIf (bOr (bOf (dBin neF (dFn (g__law_kinds K A) (dCons (dVar 7) dNil)) (dLc (.one 9) [9] (dRng1 (dCons (dC (.int 10)) dNil)) bYes (dBin eqF (dVar 9) (dVar 6))))) (bOf (dBin neF (dFn (g__law_kinds K A) (dCons (dBin ixF (dVar 5) (dVar 6)) dNil)) (dFn (g__law_kinds K A) (dCons (dVar 7) dNil))))) (sRet (dC (.bl false))) sNil) (sSeq (sAsg (.one 8) (dLst (dCons (dCall (isiF K A.ocs A.ecs) (dCons (dVar 7) (dCons (dC (.cls A.c_SignError)) dNil))) (dCons (dCall (isiF K A.ocs A.ecs) (dCons (dVar 7) (dCons (dC (.ty "ValueError")) dNil))) (dCons (dCall (isiF K A.ocs A.ecs) (dCons (dVar 7) (dCons (dC (.ty "LookupError")) dNil))) dNil))))) (sIf (bOf (dBin neF (dBin addF (dVar 8) (dLst (dCons (dCall (isiF K A.ocs A.ecs) (dCons (dVar 7) (dCons (dC (.ty "OverflowError")) dNil))) dNil))) (dLst (dCons (dBin ltF (dVar 6) (dC (.int 9))) (dCons (dBin ltF (dVar 6) (dC (.int 9))) (dCons (dC (.bl false)) (dCons (dBin eqF (dVar 6) (dC (.int 9))) dNil))))))) (sRet (dC (.bl false))) sNil))))
theorem ib_BadPeople (X : Kit K A) {q : D} (hq : Shown q) (m : DM) (s0 s1 s2 s4 s8 s9 : Option D) : ib K A [s0, s1, s2, some q, s4, some (.lst (Ls A q)), some (.int 0), some (.exo A.c_BadPeople "value" q), s8, s9] m = .ok (.next [s0, s1, s2, some q, s4, some (.lst (Ls A q)), some (.int 0), some (.exo A.c_BadPeople "value" q), some (.lst [.bl true, .bl true, .bl false]), s9]) m := by
  obtain ⟨s, hs, hk⟩ := hq
  have e0 := neF_str hk
  have e1 := field_BadPeople X q m
  have e2 := kinds_BadPeople X q m
  have e3 : ixF (.lst (Ls A q)) (.int 0) = some (.exo A.c_BadPeople "value" q) := rfl
  have e4 : dLc (M := DM) (.one 9) [9] (dRng1 (dCons (dC (.int 10)) dNil)) bYes (dBin eqF (dVar 9) (dVar 6)) [s0, s1, s2, some q, s4, some (.lst (Ls A q)), some (.int 0), some (.exo A.c_BadPeople "value" q), s8, s9] m = .ok (.lst [.bl true, .bl false, .bl false, .bl false, .bl false, .bl false, .bl false, .bl false, .bl false, .bl false]) m := rfl
  have e5 : neF (.lst [.bl true, .bl false, .bl false, .bl false, .bl false, .bl false, .bl false, .bl false, .bl false, .bl false]) (.lst [.bl true, .bl false, .bl false, .bl false, .bl false, .bl false, .bl false, .bl false, .bl false, .bl false]) = some (.bl false) := rfl
  have t0 : isiF K A.ocs A.ecs [.exo A.c_BadPeople "value" q, .cls A.c_SignError] = some (.bl true) := isi_one mem_BadPeople X.x1_0
  have t1 : isiF K A.ocs A.ecs [.exo A.c_BadPeople "value" q, .ty "ValueError"] = some (.bl true) := isi_ty mem_BadPeople X.x1_v
  have t2 : isiF K A.ocs A.ecs [.exo A.c_BadPeople "value" q, .ty "LookupError"] = some (.bl false) := isi_ty mem_BadPeople X.x1_l
  have t3 : isiF K A.ocs A.ecs [.exo A.c_BadPeople "value" q, .ty "OverflowError"] = some (.bl false) := isi_ty mem_BadPeople X.x1_o
  have t4 : neF (.lst [.bl true, .bl true, .bl false, .bl false]) (.lst [.bl true, .bl true, .bl false, .bl false]) = some (.bl false) := rfl
  have t5 : ltF (.int 0) (.int 9) = some (.bl true) := rfl
  have t6 : eqF (.int 0) (.int 9) = some (.bl false) := rfl
  simp only [sSeq, sAsg, sRet, sIf, sNil, dLst, dCons, dNil, dCall, dVar, dC, dBin, dFn, dUn, dTup, bOf, bOr, dIf, Mo.bnd, Mo.ret, Mo.opt, bindT, asB, fin, startD, List.map_cons, List.map_nil, List.cons_append, List.nil_append, List.getD_cons_zero, List.getD_cons_succ, List.set_cons_zero, List.set_cons_succ, List.length_cons, List.length_nil, List.replicate_succ, List.replicate_zero, Nat.add_one_sub_one, Nat.sub_self, Nat.zero_add, Nat.reduceAdd, Nat.reduceSub, if_true, Bool.false_eq_true, if_false, sl0, sl3, sl4, sl5, sl7, sl8, sl10, sl1, sl2', addF_lst, ib, e0, e1, e2, e3, e4, e5, hs, t0, t1, t2, t3, t4, t5, t6]
theorem ib_BadLot (X : Kit K A) {q : D} (hq : Shown q) (m : DM) (s0 s1 s2 s4 s8 s9 : Option D) : ib K A [s0, s1, s2, some q, s4, some (.lst (Ls A q)), some (.int 1), some (.exo A.c_BadLot "value" q), s8, s9] m = .ok (.next [s0, s1, s2, some q, s4, some (.lst (Ls A q)), some (.int 1), some (.exo A.c_BadLot "value" q), some (.lst [.bl true, .bl true, .bl false]), s9]) m := by
  obtain ⟨s, hs, hk⟩ := hq
  have e0 := neF_str hk
  have e1 := field_BadLot X q m
  have e2 := kinds_BadLot X q m
  have e3 : ixF (.lst (Ls A q)) (.int 1) = some (.exo A.c_BadLot "value" q) := rfl
  have e4 : dLc (M := DM) (.one 9) [9] (dRng1 (dCons (dC (.int 10)) dNil)) bYes (dBin eqF (dVar 9) (dVar 6)) [s0, s1, s2, some q, s4, some (.lst (Ls A q)), some (.int 1), some (.exo A.c_BadLot "value" q), s8, s9] m = .ok (.lst [.bl false, .bl true, .bl false, .bl false, .bl false, .bl false, .bl false, .bl false, .bl false, .bl false]) m := rfl
  have e5 : neF (.lst [.bl false, .bl true, .bl false, .bl false, .bl false, .bl false, .bl false, .bl false, .bl false, .bl false]) (.lst [.bl false, .bl true, .bl false, .bl false, .bl false, .bl false, .bl false, .bl false, .bl false, .bl false]) = some (.bl false) := rfl
  have t0 : isiF K A.ocs A.ecs [.exo A.c_BadLot "value" q, .cls A.c_SignError] = some (.bl true) := isi_one mem_BadLot X.x2_0
  have t1 : isiF K A.ocs A.ecs [.exo A.c_BadLot "value" q, .ty "ValueError"] = some (.bl true) := isi_ty mem_BadLot X.x2_v
  have t2 : isiF K A.ocs A.ecs [.exo A.c_BadLot "value" q, .ty "LookupError"] = some (.bl false) := isi_ty mem_BadLot X.x2_l
  have t3 : isiF K A.ocs A.ecs [.exo A.c_BadLot "value" q, .ty "OverflowError"] = some (.bl false) := isi_ty mem_BadLot X.x2_o
  have t4 : neF (.lst [.bl true, .bl true, .bl false, .bl false]) (.lst [.bl true, .bl true, .bl false, .bl false]) = some (.bl false) := rfl
  have t5 : ltF (.int 1) (.int 9) = some (.bl true) := rfl
  have t6 : eqF (.int 1) (.int 9) = some (.bl false) := rfl
  simp only [sSeq, sAsg, sRet, sIf, sNil, dLst, dCons, dNil, dCall, dVar, dC, dBin, dFn, dUn, dTup, bOf, bOr, dIf, Mo.bnd, Mo.ret, Mo.opt, bindT, asB, fin, startD, List.map_cons, List.map_nil, List.cons_append, List.nil_append, List.getD_cons_zero, List.getD_cons_succ, List.set_cons_zero, List.set_cons_succ, List.length_cons, List.length_nil, List.replicate_succ, List.replicate_zero, Nat.add_one_sub_one, Nat.sub_self, Nat.zero_add, Nat.reduceAdd, Nat.reduceSub, if_true, Bool.false_eq_true, if_false, sl0, sl3, sl4, sl5, sl7, sl8, sl10, sl1, sl2', addF_lst, ib, e0, e1, e2, e3, e4, e5, hs, t0, t1, t2, t3, t4, t5, t6]
theorem ib_BadClause (X : Kit K A) {q : D} (hq : Shown q) (m : DM) (s0 s1 s2 s4 s8 s9 : Option D) : ib K A [s0, s1, s2, some q, s4, some (.lst (Ls A q)), some (.int 2), some (.exo A.c_BadClause "place" q), s8, s9] m = .ok (.next [s0, s1, s2, some q, s4, some (.lst (Ls A q)), some (.int 2), some (.exo A.c_BadClause "place" q), some (.lst [.bl true, .bl true, .bl false]), s9]) m := by
  obtain ⟨s, hs, hk⟩ := hq
  have e0 := neF_str hk
  have e1 := field_BadClause X q m
  have e2 := kinds_BadClause X q m
  have e3 : ixF (.lst (Ls A q)) (.int 2) = some (.exo A.c_BadClause "place" q) := rfl
  have e4 : dLc (M := DM) (.one 9) [9] (dRng1 (dCons (dC (.int 10)) dNil)) bYes (dBin eqF (dVar 9) (dVar 6)) [s0, s1, s2, some q, s4, some (.lst (Ls A q)), some (.int 2), some (.exo A.c_BadClause "place" q), s8, s9] m = .ok (.lst [.bl false, .bl false, .bl true, .bl false, .bl false, .bl false, .bl false, .bl false, .bl false, .bl false]) m := rfl
  have e5 : neF (.lst [.bl false, .bl false, .bl true, .bl false, .bl false, .bl false, .bl false, .bl false, .bl false, .bl false]) (.lst [.bl false, .bl false, .bl true, .bl false, .bl false, .bl false, .bl false, .bl false, .bl false, .bl false]) = some (.bl false) := rfl
  have t0 : isiF K A.ocs A.ecs [.exo A.c_BadClause "place" q, .cls A.c_SignError] = some (.bl true) := isi_one mem_BadClause X.x3_0
  have t1 : isiF K A.ocs A.ecs [.exo A.c_BadClause "place" q, .ty "ValueError"] = some (.bl true) := isi_ty mem_BadClause X.x3_v
  have t2 : isiF K A.ocs A.ecs [.exo A.c_BadClause "place" q, .ty "LookupError"] = some (.bl false) := isi_ty mem_BadClause X.x3_l
  have t3 : isiF K A.ocs A.ecs [.exo A.c_BadClause "place" q, .ty "OverflowError"] = some (.bl false) := isi_ty mem_BadClause X.x3_o
  have t4 : neF (.lst [.bl true, .bl true, .bl false, .bl false]) (.lst [.bl true, .bl true, .bl false, .bl false]) = some (.bl false) := rfl
  have t5 : ltF (.int 2) (.int 9) = some (.bl true) := rfl
  have t6 : eqF (.int 2) (.int 9) = some (.bl false) := rfl
  simp only [sSeq, sAsg, sRet, sIf, sNil, dLst, dCons, dNil, dCall, dVar, dC, dBin, dFn, dUn, dTup, bOf, bOr, dIf, Mo.bnd, Mo.ret, Mo.opt, bindT, asB, fin, startD, List.map_cons, List.map_nil, List.cons_append, List.nil_append, List.getD_cons_zero, List.getD_cons_succ, List.set_cons_zero, List.set_cons_succ, List.length_cons, List.length_nil, List.replicate_succ, List.replicate_zero, Nat.add_one_sub_one, Nat.sub_self, Nat.zero_add, Nat.reduceAdd, Nat.reduceSub, if_true, Bool.false_eq_true, if_false, sl0, sl3, sl4, sl5, sl7, sl8, sl10, sl1, sl2', addF_lst, ib, e0, e1, e2, e3, e4, e5, hs, t0, t1, t2, t3, t4, t5, t6]
theorem ib_BadBook (X : Kit K A) {q : D} (hq : Shown q) (m : DM) (s0 s1 s2 s4 s8 s9 : Option D) : ib K A [s0, s1, s2, some q, s4, some (.lst (Ls A q)), some (.int 3), some (.exo A.c_BadBook "place" q), s8, s9] m = .ok (.next [s0, s1, s2, some q, s4, some (.lst (Ls A q)), some (.int 3), some (.exo A.c_BadBook "place" q), some (.lst [.bl true, .bl true, .bl false]), s9]) m := by
  obtain ⟨s, hs, hk⟩ := hq
  have e0 := neF_str hk
  have e1 := field_BadBook X q m
  have e2 := kinds_BadBook X q m
  have e3 : ixF (.lst (Ls A q)) (.int 3) = some (.exo A.c_BadBook "place" q) := rfl
  have e4 : dLc (M := DM) (.one 9) [9] (dRng1 (dCons (dC (.int 10)) dNil)) bYes (dBin eqF (dVar 9) (dVar 6)) [s0, s1, s2, some q, s4, some (.lst (Ls A q)), some (.int 3), some (.exo A.c_BadBook "place" q), s8, s9] m = .ok (.lst [.bl false, .bl false, .bl false, .bl true, .bl false, .bl false, .bl false, .bl false, .bl false, .bl false]) m := rfl
  have e5 : neF (.lst [.bl false, .bl false, .bl false, .bl true, .bl false, .bl false, .bl false, .bl false, .bl false, .bl false]) (.lst [.bl false, .bl false, .bl false, .bl true, .bl false, .bl false, .bl false, .bl false, .bl false, .bl false]) = some (.bl false) := rfl
  have t0 : isiF K A.ocs A.ecs [.exo A.c_BadBook "place" q, .cls A.c_SignError] = some (.bl true) := isi_one mem_BadBook X.x4_0
  have t1 : isiF K A.ocs A.ecs [.exo A.c_BadBook "place" q, .ty "ValueError"] = some (.bl true) := isi_ty mem_BadBook X.x4_v
  have t2 : isiF K A.ocs A.ecs [.exo A.c_BadBook "place" q, .ty "LookupError"] = some (.bl false) := isi_ty mem_BadBook X.x4_l
  have t3 : isiF K A.ocs A.ecs [.exo A.c_BadBook "place" q, .ty "OverflowError"] = some (.bl false) := isi_ty mem_BadBook X.x4_o
  have t4 : neF (.lst [.bl true, .bl true, .bl false, .bl false]) (.lst [.bl true, .bl true, .bl false, .bl false]) = some (.bl false) := rfl
  have t5 : ltF (.int 3) (.int 9) = some (.bl true) := rfl
  have t6 : eqF (.int 3) (.int 9) = some (.bl false) := rfl
  simp only [sSeq, sAsg, sRet, sIf, sNil, dLst, dCons, dNil, dCall, dVar, dC, dBin, dFn, dUn, dTup, bOf, bOr, dIf, Mo.bnd, Mo.ret, Mo.opt, bindT, asB, fin, startD, List.map_cons, List.map_nil, List.cons_append, List.nil_append, List.getD_cons_zero, List.getD_cons_succ, List.set_cons_zero, List.set_cons_succ, List.length_cons, List.length_nil, List.replicate_succ, List.replicate_zero, Nat.add_one_sub_one, Nat.sub_self, Nat.zero_add, Nat.reduceAdd, Nat.reduceSub, if_true, Bool.false_eq_true, if_false, sl0, sl3, sl4, sl5, sl7, sl8, sl10, sl1, sl2', addF_lst, ib, e0, e1, e2, e3, e4, e5, hs, t0, t1, t2, t3, t4, t5, t6]
theorem ib_BadRow (X : Kit K A) {q : D} (hq : Shown q) (m : DM) (s0 s1 s2 s4 s8 s9 : Option D) : ib K A [s0, s1, s2, some q, s4, some (.lst (Ls A q)), some (.int 4), some (.exo A.c_BadRow "value" q), s8, s9] m = .ok (.next [s0, s1, s2, some q, s4, some (.lst (Ls A q)), some (.int 4), some (.exo A.c_BadRow "value" q), some (.lst [.bl true, .bl true, .bl false]), s9]) m := by
  obtain ⟨s, hs, hk⟩ := hq
  have e0 := neF_str hk
  have e1 := field_BadRow X q m
  have e2 := kinds_BadRow X q m
  have e3 : ixF (.lst (Ls A q)) (.int 4) = some (.exo A.c_BadRow "value" q) := rfl
  have e4 : dLc (M := DM) (.one 9) [9] (dRng1 (dCons (dC (.int 10)) dNil)) bYes (dBin eqF (dVar 9) (dVar 6)) [s0, s1, s2, some q, s4, some (.lst (Ls A q)), some (.int 4), some (.exo A.c_BadRow "value" q), s8, s9] m = .ok (.lst [.bl false, .bl false, .bl false, .bl false, .bl true, .bl false, .bl false, .bl false, .bl false, .bl false]) m := rfl
  have e5 : neF (.lst [.bl false, .bl false, .bl false, .bl false, .bl true, .bl false, .bl false, .bl false, .bl false, .bl false]) (.lst [.bl false, .bl false, .bl false, .bl false, .bl true, .bl false, .bl false, .bl false, .bl false, .bl false]) = some (.bl false) := rfl
  have t0 : isiF K A.ocs A.ecs [.exo A.c_BadRow "value" q, .cls A.c_SignError] = some (.bl true) := isi_one mem_BadRow X.x5_0
  have t1 : isiF K A.ocs A.ecs [.exo A.c_BadRow "value" q, .ty "ValueError"] = some (.bl true) := isi_ty mem_BadRow X.x5_v
  have t2 : isiF K A.ocs A.ecs [.exo A.c_BadRow "value" q, .ty "LookupError"] = some (.bl false) := isi_ty mem_BadRow X.x5_l
  have t3 : isiF K A.ocs A.ecs [.exo A.c_BadRow "value" q, .ty "OverflowError"] = some (.bl false) := isi_ty mem_BadRow X.x5_o
  have t4 : neF (.lst [.bl true, .bl true, .bl false, .bl false]) (.lst [.bl true, .bl true, .bl false, .bl false]) = some (.bl false) := rfl
  have t5 : ltF (.int 4) (.int 9) = some (.bl true) := rfl
  have t6 : eqF (.int 4) (.int 9) = some (.bl false) := rfl
  simp only [sSeq, sAsg, sRet, sIf, sNil, dLst, dCons, dNil, dCall, dVar, dC, dBin, dFn, dUn, dTup, bOf, bOr, dIf, Mo.bnd, Mo.ret, Mo.opt, bindT, asB, fin, startD, List.map_cons, List.map_nil, List.cons_append, List.nil_append, List.getD_cons_zero, List.getD_cons_succ, List.set_cons_zero, List.set_cons_succ, List.length_cons, List.length_nil, List.replicate_succ, List.replicate_zero, Nat.add_one_sub_one, Nat.sub_self, Nat.zero_add, Nat.reduceAdd, Nat.reduceSub, if_true, Bool.false_eq_true, if_false, sl0, sl3, sl4, sl5, sl7, sl8, sl10, sl1, sl2', addF_lst, ib, e0, e1, e2, e3, e4, e5, hs, t0, t1, t2, t3, t4, t5, t6]
theorem ib_BadWish (X : Kit K A) {q : D} (hq : Shown q) (m : DM) (s0 s1 s2 s4 s8 s9 : Option D) : ib K A [s0, s1, s2, some q, s4, some (.lst (Ls A q)), some (.int 5), some (.exo A.c_BadWish "value" q), s8, s9] m = .ok (.next [s0, s1, s2, some q, s4, some (.lst (Ls A q)), some (.int 5), some (.exo A.c_BadWish "value" q), some (.lst [.bl true, .bl true, .bl false]), s9]) m := by
  obtain ⟨s, hs, hk⟩ := hq
  have e0 := neF_str hk
  have e1 := field_BadWish X q m
  have e2 := kinds_BadWish X q m
  have e3 : ixF (.lst (Ls A q)) (.int 5) = some (.exo A.c_BadWish "value" q) := rfl
  have e4 : dLc (M := DM) (.one 9) [9] (dRng1 (dCons (dC (.int 10)) dNil)) bYes (dBin eqF (dVar 9) (dVar 6)) [s0, s1, s2, some q, s4, some (.lst (Ls A q)), some (.int 5), some (.exo A.c_BadWish "value" q), s8, s9] m = .ok (.lst [.bl false, .bl false, .bl false, .bl false, .bl false, .bl true, .bl false, .bl false, .bl false, .bl false]) m := rfl
  have e5 : neF (.lst [.bl false, .bl false, .bl false, .bl false, .bl false, .bl true, .bl false, .bl false, .bl false, .bl false]) (.lst [.bl false, .bl false, .bl false, .bl false, .bl false, .bl true, .bl false, .bl false, .bl false, .bl false]) = some (.bl false) := rfl
  have t0 : isiF K A.ocs A.ecs [.exo A.c_BadWish "value" q, .cls A.c_SignError] = some (.bl true) := isi_one mem_BadWish X.x6_0
  have t1 : isiF K A.ocs A.ecs [.exo A.c_BadWish "value" q, .ty "ValueError"] = some (.bl true) := isi_ty mem_BadWish X.x6_v
  have t2 : isiF K A.ocs A.ecs [.exo A.c_BadWish "value" q, .ty "LookupError"] = some (.bl false) := isi_ty mem_BadWish X.x6_l
  have t3 : isiF K A.ocs A.ecs [.exo A.c_BadWish "value" q, .ty "OverflowError"] = some (.bl false) := isi_ty mem_BadWish X.x6_o
  have t4 : neF (.lst [.bl true, .bl true, .bl false, .bl false]) (.lst [.bl true, .bl true, .bl false, .bl false]) = some (.bl false) := rfl
  have t5 : ltF (.int 5) (.int 9) = some (.bl true) := rfl
  have t6 : eqF (.int 5) (.int 9) = some (.bl false) := rfl
  simp only [sSeq, sAsg, sRet, sIf, sNil, dLst, dCons, dNil, dCall, dVar, dC, dBin, dFn, dUn, dTup, bOf, bOr, dIf, Mo.bnd, Mo.ret, Mo.opt, bindT, asB, fin, startD, List.map_cons, List.map_nil, List.cons_append, List.nil_append, List.getD_cons_zero, List.getD_cons_succ, List.set_cons_zero, List.set_cons_succ, List.length_cons, List.length_nil, List.replicate_succ, List.replicate_zero, Nat.add_one_sub_one, Nat.sub_self, Nat.zero_add, Nat.reduceAdd, Nat.reduceSub, if_true, Bool.false_eq_true, if_false, sl0, sl3, sl4, sl5, sl7, sl8, sl10, sl1, sl2', addF_lst, ib, e0, e1, e2, e3, e4, e5, hs, t0, t1, t2, t3, t4, t5, t6]
theorem ib_BadNumber (X : Kit K A) {q : D} (hq : Shown q) (m : DM) (s0 s1 s2 s4 s8 s9 : Option D) : ib K A [s0, s1, s2, some q, s4, some (.lst (Ls A q)), some (.int 6), some (.exo A.c_BadNumber "value" q), s8, s9] m = .ok (.next [s0, s1, s2, some q, s4, some (.lst (Ls A q)), some (.int 6), some (.exo A.c_BadNumber "value" q), some (.lst [.bl true, .bl true, .bl false]), s9]) m := by
  obtain ⟨s, hs, hk⟩ := hq
  have e0 := neF_str hk
  have e1 := field_BadNumber X q m
  have e2 := kinds_BadNumber X q m
  have e3 : ixF (.lst (Ls A q)) (.int 6) = some (.exo A.c_BadNumber "value" q) := rfl
  have e4 : dLc (M := DM) (.one 9) [9] (dRng1 (dCons (dC (.int 10)) dNil)) bYes (dBin eqF (dVar 9) (dVar 6)) [s0, s1, s2, some q, s4, some (.lst (Ls A q)), some (.int 6), some (.exo A.c_BadNumber "value" q), s8, s9] m = .ok (.lst [.bl false, .bl false, .bl false, .bl false, .bl false, .bl false, .bl true, .bl false, .bl false, .bl false]) m := rfl
  have e5 : neF (.lst [.bl false, .bl false, .bl false, .bl false, .bl false, .bl false, .bl true, .bl false, .bl false, .bl false]) (.lst [.bl false, .bl false, .bl false, .bl false, .bl false, .bl false, .bl true, .bl false, .bl false, .bl false]) = some (.bl false) := rfl
  have t0 : isiF K A.ocs A.ecs [.exo A.c_BadNumber "value" q, .cls A.c_SignError] = some (.bl true) := isi_one mem_BadNumber X.x7_0
  have t1 : isiF K A.ocs A.ecs [.exo A.c_BadNumber "value" q, .ty "ValueError"] = some (.bl true) := isi_ty mem_BadNumber X.x7_v
  have t2 : isiF K A.ocs A.ecs [.exo A.c_BadNumber "value" q, .ty "LookupError"] = some (.bl false) := isi_ty mem_BadNumber X.x7_l
  have t3 : isiF K A.ocs A.ecs [.exo A.c_BadNumber "value" q, .ty "OverflowError"] = some (.bl false) := isi_ty mem_BadNumber X.x7_o
  have t4 : neF (.lst [.bl true, .bl true, .bl false, .bl false]) (.lst [.bl true, .bl true, .bl false, .bl false]) = some (.bl false) := rfl
  have t5 : ltF (.int 6) (.int 9) = some (.bl true) := rfl
  have t6 : eqF (.int 6) (.int 9) = some (.bl false) := rfl
  simp only [sSeq, sAsg, sRet, sIf, sNil, dLst, dCons, dNil, dCall, dVar, dC, dBin, dFn, dUn, dTup, bOf, bOr, dIf, Mo.bnd, Mo.ret, Mo.opt, bindT, asB, fin, startD, List.map_cons, List.map_nil, List.cons_append, List.nil_append, List.getD_cons_zero, List.getD_cons_succ, List.set_cons_zero, List.set_cons_succ, List.length_cons, List.length_nil, List.replicate_succ, List.replicate_zero, Nat.add_one_sub_one, Nat.sub_self, Nat.zero_add, Nat.reduceAdd, Nat.reduceSub, if_true, Bool.false_eq_true, if_false, sl0, sl3, sl4, sl5, sl7, sl8, sl10, sl1, sl2', addF_lst, ib, e0, e1, e2, e3, e4, e5, hs, t0, t1, t2, t3, t4, t5, t6]
theorem ib_BadPaper (X : Kit K A) {q : D} (hq : Shown q) (m : DM) (s0 s1 s2 s4 s8 s9 : Option D) : ib K A [s0, s1, s2, some q, s4, some (.lst (Ls A q)), some (.int 7), some (.exo A.c_BadPaper "place" q), s8, s9] m = .ok (.next [s0, s1, s2, some q, s4, some (.lst (Ls A q)), some (.int 7), some (.exo A.c_BadPaper "place" q), some (.lst [.bl true, .bl true, .bl false]), s9]) m := by
  obtain ⟨s, hs, hk⟩ := hq
  have e0 := neF_str hk
  have e1 := field_BadPaper X q m
  have e2 := kinds_BadPaper X q m
  have e3 : ixF (.lst (Ls A q)) (.int 7) = some (.exo A.c_BadPaper "place" q) := rfl
  have e4 : dLc (M := DM) (.one 9) [9] (dRng1 (dCons (dC (.int 10)) dNil)) bYes (dBin eqF (dVar 9) (dVar 6)) [s0, s1, s2, some q, s4, some (.lst (Ls A q)), some (.int 7), some (.exo A.c_BadPaper "place" q), s8, s9] m = .ok (.lst [.bl false, .bl false, .bl false, .bl false, .bl false, .bl false, .bl false, .bl true, .bl false, .bl false]) m := rfl
  have e5 : neF (.lst [.bl false, .bl false, .bl false, .bl false, .bl false, .bl false, .bl false, .bl true, .bl false, .bl false]) (.lst [.bl false, .bl false, .bl false, .bl false, .bl false, .bl false, .bl false, .bl true, .bl false, .bl false]) = some (.bl false) := rfl
  have t0 : isiF K A.ocs A.ecs [.exo A.c_BadPaper "place" q, .cls A.c_SignError] = some (.bl true) := isi_one mem_BadPaper X.x8_0
  have t1 : isiF K A.ocs A.ecs [.exo A.c_BadPaper "place" q, .ty "ValueError"] = some (.bl true) := isi_ty mem_BadPaper X.x8_v
  have t2 : isiF K A.ocs A.ecs [.exo A.c_BadPaper "place" q, .ty "LookupError"] = some (.bl false) := isi_ty mem_BadPaper X.x8_l
  have t3 : isiF K A.ocs A.ecs [.exo A.c_BadPaper "place" q, .ty "OverflowError"] = some (.bl false) := isi_ty mem_BadPaper X.x8_o
  have t4 : neF (.lst [.bl true, .bl true, .bl false, .bl false]) (.lst [.bl true, .bl true, .bl false, .bl false]) = some (.bl false) := rfl
  have t5 : ltF (.int 7) (.int 9) = some (.bl true) := rfl
  have t6 : eqF (.int 7) (.int 9) = some (.bl false) := rfl
  simp only [sSeq, sAsg, sRet, sIf, sNil, dLst, dCons, dNil, dCall, dVar, dC, dBin, dFn, dUn, dTup, bOf, bOr, dIf, Mo.bnd, Mo.ret, Mo.opt, bindT, asB, fin, startD, List.map_cons, List.map_nil, List.cons_append, List.nil_append, List.getD_cons_zero, List.getD_cons_succ, List.set_cons_zero, List.set_cons_succ, List.length_cons, List.length_nil, List.replicate_succ, List.replicate_zero, Nat.add_one_sub_one, Nat.sub_self, Nat.zero_add, Nat.reduceAdd, Nat.reduceSub, if_true, Bool.false_eq_true, if_false, sl0, sl3, sl4, sl5, sl7, sl8, sl10, sl1, sl2', addF_lst, ib, e0, e1, e2, e3, e4, e5, hs, t0, t1, t2, t3, t4, t5, t6]
theorem ib_BadText (X : Kit K A) {q : D} (hq : Shown q) (m : DM) (s0 s1 s2 s4 s8 s9 : Option D) : ib K A [s0, s1, s2, some q, s4, some (.lst (Ls A q)), some (.int 8), some (.exo A.c_BadText "line" q), s8, s9] m = .ok (.next [s0, s1, s2, some q, s4, some (.lst (Ls A q)), some (.int 8), some (.exo A.c_BadText "line" q), some (.lst [.bl true, .bl true, .bl false]), s9]) m := by
  obtain ⟨s, hs, hk⟩ := hq
  have e0 := neF_str hk
  have e1 := field_BadText X q m
  have e2 := kinds_BadText X q m
  have e3 : ixF (.lst (Ls A q)) (.int 8) = some (.exo A.c_BadText "line" q) := rfl
  have e4 : dLc (M := DM) (.one 9) [9] (dRng1 (dCons (dC (.int 10)) dNil)) bYes (dBin eqF (dVar 9) (dVar 6)) [s0, s1, s2, some q, s4, some (.lst (Ls A q)), some (.int 8), some (.exo A.c_BadText "line" q), s8, s9] m = .ok (.lst [.bl false, .bl false, .bl false, .bl false, .bl false, .bl false, .bl false, .bl false, .bl true, .bl false]) m := rfl
  have e5 : neF (.lst [.bl false, .bl false, .bl false, .bl false, .bl false, .bl false, .bl false, .bl false, .bl true, .bl false]) (.lst [.bl false, .bl false, .bl false, .bl false, .bl false, .bl false, .bl false, .bl false, .bl true, .bl false]) = some (.bl false) := rfl
  have t0 : isiF K A.ocs A.ecs [.exo A.c_BadText "line" q, .cls A.c_SignError] = some (.bl true) := isi_one mem_BadText X.x9_0
  have t1 : isiF K A.ocs A.ecs [.exo A.c_BadText "line" q, .ty "ValueError"] = some (.bl true) := isi_ty mem_BadText X.x9_v
  have t2 : isiF K A.ocs A.ecs [.exo A.c_BadText "line" q, .ty "LookupError"] = some (.bl false) := isi_ty mem_BadText X.x9_l
  have t3 : isiF K A.ocs A.ecs [.exo A.c_BadText "line" q, .ty "OverflowError"] = some (.bl false) := isi_ty mem_BadText X.x9_o
  have t4 : neF (.lst [.bl true, .bl true, .bl false, .bl false]) (.lst [.bl true, .bl true, .bl false, .bl false]) = some (.bl false) := rfl
  have t5 : ltF (.int 8) (.int 9) = some (.bl true) := rfl
  have t6 : eqF (.int 8) (.int 9) = some (.bl false) := rfl
  simp only [sSeq, sAsg, sRet, sIf, sNil, dLst, dCons, dNil, dCall, dVar, dC, dBin, dFn, dUn, dTup, bOf, bOr, dIf, Mo.bnd, Mo.ret, Mo.opt, bindT, asB, fin, startD, List.map_cons, List.map_nil, List.cons_append, List.nil_append, List.getD_cons_zero, List.getD_cons_succ, List.set_cons_zero, List.set_cons_succ, List.length_cons, List.length_nil, List.replicate_succ, List.replicate_zero, Nat.add_one_sub_one, Nat.sub_self, Nat.zero_add, Nat.reduceAdd, Nat.reduceSub, if_true, Bool.false_eq_true, if_false, sl0, sl3, sl4, sl5, sl7, sl8, sl10, sl1, sl2', addF_lst, ib, e0, e1, e2, e3, e4, e5, hs, t0, t1, t2, t3, t4, t5, t6]
theorem ib_TooMany (X : Kit K A) {q : D} (hq : Shown q) (m : DM) (s0 s1 s2 s4 s8 s9 : Option D) : ib K A [s0, s1, s2, some q, s4, some (.lst (Ls A q)), some (.int 9), some (.exo A.c_TooMany "most" q), s8, s9] m = .ok (.next [s0, s1, s2, some q, s4, some (.lst (Ls A q)), some (.int 9), some (.exo A.c_TooMany "most" q), some (.lst [.bl false, .bl false, .bl false]), s9]) m := by
  obtain ⟨s, hs, hk⟩ := hq
  have e0 := neF_str hk
  have e1 := field_TooMany X q m
  have e2 := kinds_TooMany X q m
  have e3 : ixF (.lst (Ls A q)) (.int 9) = some (.exo A.c_TooMany "most" q) := rfl
  have e4 : dLc (M := DM) (.one 9) [9] (dRng1 (dCons (dC (.int 10)) dNil)) bYes (dBin eqF (dVar 9) (dVar 6)) [s0, s1, s2, some q, s4, some (.lst (Ls A q)), some (.int 9), some (.exo A.c_TooMany "most" q), s8, s9] m = .ok (.lst [.bl false, .bl false, .bl false, .bl false, .bl false, .bl false, .bl false, .bl false, .bl false, .bl true]) m := rfl
  have e5 : neF (.lst [.bl false, .bl false, .bl false, .bl false, .bl false, .bl false, .bl false, .bl false, .bl false, .bl true]) (.lst [.bl false, .bl false, .bl false, .bl false, .bl false, .bl false, .bl false, .bl false, .bl false, .bl true]) = some (.bl false) := rfl
  have t0 : isiF K A.ocs A.ecs [.exo A.c_TooMany "most" q, .cls A.c_SignError] = some (.bl false) := isi_one mem_TooMany X.x10_0
  have t1 : isiF K A.ocs A.ecs [.exo A.c_TooMany "most" q, .ty "ValueError"] = some (.bl false) := isi_ty mem_TooMany X.x10_v
  have t2 : isiF K A.ocs A.ecs [.exo A.c_TooMany "most" q, .ty "LookupError"] = some (.bl false) := isi_ty mem_TooMany X.x10_l
  have t3 : isiF K A.ocs A.ecs [.exo A.c_TooMany "most" q, .ty "OverflowError"] = some (.bl true) := isi_ty mem_TooMany X.x10_o
  have t4 : neF (.lst [.bl false, .bl false, .bl false, .bl true]) (.lst [.bl false, .bl false, .bl false, .bl true]) = some (.bl false) := rfl
  have t5 : ltF (.int 9) (.int 9) = some (.bl false) := rfl
  have t6 : eqF (.int 9) (.int 9) = some (.bl true) := rfl
  simp only [sSeq, sAsg, sRet, sIf, sNil, dLst, dCons, dNil, dCall, dVar, dC, dBin, dFn, dUn, dTup, bOf, bOr, dIf, Mo.bnd, Mo.ret, Mo.opt, bindT, asB, fin, startD, List.map_cons, List.map_nil, List.cons_append, List.nil_append, List.getD_cons_zero, List.getD_cons_succ, List.set_cons_zero, List.set_cons_succ, List.length_cons, List.length_nil, List.replicate_succ, List.replicate_zero, Nat.add_one_sub_one, Nat.sub_self, Nat.zero_add, Nat.reduceAdd, Nat.reduceSub, if_true, Bool.false_eq_true, if_false, sl0, sl3, sl4, sl5, sl7, sl8, sl10, sl1, sl2', addF_lst, ib, e0, e1, e2, e3, e4, e5, hs, t0, t1, t2, t3, t4, t5, t6]
theorem enum10 (q : D) : enumD 0 (Ls A q) = [.tup [.int 0, .exo A.c_BadPeople "value" q], .tup [.int 1, .exo A.c_BadLot "value" q], .tup [.int 2, .exo A.c_BadClause "place" q], .tup [.int 3, .exo A.c_BadBook "place" q], .tup [.int 4, .exo A.c_BadRow "value" q], .tup [.int 5, .exo A.c_BadWish "value" q], .tup [.int 6, .exo A.c_BadNumber "value" q], .tup [.int 7, .exo A.c_BadPaper "place" q], .tup [.int 8, .exo A.c_BadText "line" q], .tup [.int 9, .exo A.c_TooMany "most" q]] := rfl
theorem loop10 (X : Kit K A) {q : D} (hq : Shown q) (m : DM) (s0 s1 s2 s4 s6 s7 s8 s9 : Option D) : fLoop (.many [6, 7]) (ib K A) (enumD 0 (Ls A q)) [s0, s1, s2, some q, s4, some (.lst (Ls A q)), s6, s7, s8, s9] m = .ok (.next [s0, s1, s2, some q, s4, some (.lst (Ls A q)), some (.int 9), some (.exo A.c_TooMany "most" q), some (.lst [.bl false, .bl false, .bl false]), s9]) m := by
  rw [enum10]
  simp only [fLoop, bindT, bindL, Mo.bnd, Mo.opt, Mo.ret, List.set_cons_zero, List.set_cons_succ, ib_BadPeople X hq, ib_BadLot X hq, ib_BadClause X hq, ib_BadBook X hq, ib_BadRow X hq, ib_BadWish X hq, ib_BadNumber X hq, ib_BadPaper X hq, ib_BadText X hq, ib_TooMany X hq]
def ob (K : PySem.W.Frag) (A : Adr) (am : Addr) : DEnv → Mo DM Fl := (sSeq (sAsg (.one 3) (dFn (g__law_value am) (dCons (dVar 1) dNil))) (sSeq (sAsg (.one 4) (dLst (dCons (dExo A.c_BadPeople "value" (dVar 3)) (dCons (dExo A.c_BadLot "value" (dVar 3)) (dCons (dExo A.c_BadClause "place" (dVar 3)) (dCons (dExo A.c_BadBook "place" (dVar 3)) (dCons (dExo A.c_BadRow "value" (dVar 3)) (dCons (dExo A.c_BadWish "value" (dVar 3)) (dCons (dExo A.c_BadNumber "value" (dVar 3)) (dCons (dExo A.c_BadPaper "place" (dVar 3)) dNil)))))))))) (sSeq (sAsg (.one 4) (dBin addF (dVar 4) (dLst (dCons (dExo A.c_BadText "line" (dVar 3)) (dCons (dExo A.c_TooMany "most" (dVar 3)) dNil))))) (sSeq (sAsg (.one 5) (dLst (dCons (dExo A.c_BadPeople "value" (dVar 3)) (dCons (dExo A.c_BadLot "value" (dVar 3)) (dCons (dExo A.c_BadClause "place" (dVar 3)) (dCons (dExo A.c_BadBook "place" (dVar 3)) (dCons (dExo A.c_BadRow "value" (dVar 3)) dNil))))))) (sSeq (sAsg (.one 5) (dBin addF (dVar 5) (dLst (dCons (dExo A.c_BadWish "value" (dVar 3)) (dCons (dExo A.c_BadNumber "value" (dVar 3)) (dCons (dExo A.c_BadPaper "place" (dVar 3)) (dCons (dExo A.c_BadText "line" (dVar 3)) (dCons (dExo A.c_TooMany "most" (dVar 3)) dNil)))))))) (sFor (.many [6, 7]) (dEnumI (dCons (dVar 4) dNil)) (ib K A)))))))
theorem fr_eq (K : PySem.W.Frag) (A : Adr) (am : Addr) : fr_law K A am = sSeq (sFor (.one 2) (dRng1 (dCons (dBin addF (dC (.int 2)) (dCall minF (dCons (dCall lenF (dCons (dVar 0) dNil)) (dCons (dC (.int 6)) dNil)))) dNil)) (ob K A am)) (sRet (dC (.bl true))) := rfl
def Env10 (ns : List Int) (am : Addr) (ρ : DEnv) : Prop := ∃ a2 a3 a4 a5 a6 a7 a8 a9, ρ = [some (.scr ns), some (.hdl am), a2, a3, a4, a5, a6, a7, a8, a9]
theorem ob_ok (X : Kit K A) {ns : List Int} {am : Addr} {ρ : DEnv} {m : DM} {t : Nat} (hρ : Env10 ns am ρ) (h : DmOk m t) (ht : t < 2 ^ 30) : ∃ ρ' m', Env10 ns am ρ' ∧ DmOk m' (t + 1) ∧ ob K A am ρ m = .ok (.next ρ') m' := by
  obtain ⟨a2, a3, a4, a5, a6, a7, a8, a9, rfl⟩ := hρ
  obtain ⟨q, m', hq, ok, e⟩ := value_ok (am := am) h ht
  have e2 := loop10 X hq m' (some (.scr ns)) (some (.hdl am)) a2 (some (.lst (Ls A q))) a6 a7 a8 a9
  refine ⟨[some (.scr ns), some (.hdl am), a2, some q, some (.lst (Ls A q)), some (.lst (Ls A q)), some (.int 9), some (.exo A.c_TooMany "most" q), some (.lst [.bl false, .bl false, .bl false]), a9], m', ⟨_, _, _, _, _, _, _, _, rfl⟩, ok, ?_⟩
  simp only [sSeq, sAsg, sRet, sIf, sNil, dLst, dCons, dNil, dCall, dVar, dC, dBin, dFn, dUn, dTup, bOf, bOr, dIf, Mo.bnd, Mo.ret, Mo.opt, bindT, asB, fin, startD, List.map_cons, List.map_nil, List.cons_append, List.nil_append, List.getD_cons_zero, List.getD_cons_succ, List.set_cons_zero, List.set_cons_succ, List.length_cons, List.length_nil, List.replicate_succ, List.replicate_zero, Nat.add_one_sub_one, Nat.sub_self, Nat.zero_add, Nat.reduceAdd, Nat.reduceSub, if_true, Bool.false_eq_true, if_false, sl0, sl3, sl4, sl5, sl7, sl8, sl10, sl1, sl2', addF_lst, ob, dExo, sFor, dEnumI, e, e2]
theorem outer_ok (X : Kit K A) {ns : List Int} {am : Addr} : ∀ (ds : List D) (t : Nat) (m : DM) (ρ : DEnv), Env10 ns am ρ → DmOk m t → t + ds.length < 2 ^ 30 → ∃ ρ' m', fLoop (.one 2) (ob K A am) ds ρ m = .ok (.next ρ') m'
  | [], t, m, ρ, hρ, h, ht => ⟨ρ, m, rfl⟩
  | d :: ds, t, m, ρ, hρ, h, ht => by
    simp only [List.length_cons] at ht
    have hρ1 : Env10 ns am (ρ.set 2 (some d)) := by
      obtain ⟨a2, a3, a4, a5, a6, a7, a8, a9, rfl⟩ := hρ
      exact ⟨_, _, _, _, _, _, _, _, rfl⟩
    obtain ⟨ρ2, m2, hρ2, h2, e⟩ := ob_ok X hρ1 h (by omega)
    obtain ⟨ρ3, m3, e3⟩ := outer_ok X ds (t + 1) m2 ρ2 hρ2 h2 (by omega)
    refine ⟨ρ3, m3, ?_⟩
    simp only [fLoop, bindT, Mo.bnd, Mo.opt, Mo.ret, e, e3]
theorem law_true (X : Kit K A) : ∀ am ns, ns.length ≤ 63 → ∃ m', fr_law K A am ((startD ["script", "m", "turn", "q", "some", "far", "at", "one", "told", "k"] [.scr ns]).set 1 (some (.hdl am))) (begun ns) = .ok (.ret (.bl true)) m' := by
  intro am ns hl
  obtain ⟨j, hj, ej⟩ : ∃ j : Int, (0 ≤ j ∧ j ≤ 8) ∧ j = 2 + (if (6 : Int) < (ns.length : Int) then 6 else (ns.length : Int)) := ⟨_, by split <;> omega, rfl⟩
  have er : rng1 [.int j] = some (rangeD 0 j) := if_pos ⟨by omega, by omega⟩
  have el : (rangeD 0 j).length ≤ 8 := by
    unfold rangeD
    rw [List.length_map, List.length_range]
    omega
  obtain ⟨ρ', m', e⟩ := outer_ok X (rangeD 0 j) 0 (begun ns) [some (.scr ns), some (.hdl am), none, none, none, none, none, none, none, none] ⟨_, _, _, _, _, _, _, _, rfl⟩ (begun_ok (by omega)) (by omega)
  have e0 : (startD ["script", "m", "turn", "q", "some", "far", "at", "one", "told", "k"] [.scr ns]).set 1 (some (.hdl am)) = [some (.scr ns), some (.hdl am), none, none, none, none, none, none, none, none] := rfl
  have e1 : (lenF [.scr ns] : Option D) = some (.int ns.length) := rfl
  have e2 : ∀ i j : Int, minF [.int i, .int j] = some (.int (if j < i then j else i)) := fun _ _ => rfl
  have e3 : ∀ i j : Int, addF (.int i) (.int j) = some (.int (i + j)) := fun _ _ => rfl
  refine ⟨m', ?_⟩
  rw [fr_eq, e0]
  simp only [sSeq, sFor, dRng1, dCons, dNil, dBin, dC, dCall, dVar, List.getD_cons_zero, Mo.bnd, Mo.ret, Mo.opt, e1, e2, e3, ← ej, er, e, sRet]
end
end DE.L70

namespace DE.L70
open PySem PySem.Spec PyProof.Rows L2 DE
theorem all_mk {l : PySem.W.OpenLaw} {w : World} {K : PySem.W.Frag} {h : Heap} {mg : Str → Option Value} {fa : Addr} (X : K.In h) (G : h.Ns mainGlobals mg) (hfa : mg "law" = some (.ref fa))
  {c0 c1 i1 c2 i2 c3 i3 c4 i4 c5 i5 c6 i6 c7 i7 c8 i8 c9 i9 c10 i10 f11 f12 f13 f14 f15 f16 : Addr} {oc1 kV1 do1 pm1 cd1 ct1 oc2 kV2 do2 pm2 cd2 ct2 oc3 kV3 do3 pm3 cd3 ct3 oc4 kV4 do4 pm4 cd4 ct4 oc5 kV5 do5 pm5 cd5 ct5 oc6 kV6 do6 pm6 cd6 ct6 oc7 kV7 do7 pm7 cd7 ct7 oc8 kV8 do8 pm8 cd8 ct8 oc9 kV9 do9 pm9 cd9 ct9 oc10 kV10 do10 pm10 cd10 ct10 oc11 kV11 do11 pm11 cd11 ct11 oc12 kV12 do12 pm12 cd12 ct12 oc13 kV13 do13 pm13 cd13 ct13 oc14 kV14 do14 pm14 cd14 ct14 oc15 kV15 do15 pm15 cd15 ct15 oc16 kV16 do16 pm16 cd16 ct16 : Value} {od1 an1 od2 an2 od3 an3 od4 an4 od5 an5 od6 an6 od7 an7 od8 an8 od9 an9 od10 an10 od11 an11 od12 an12 od13 an13 od14 an14 od15 an15 od16 an16 : Option Addr} {sl1 sl2 sl3 sl4 sl5 sl6 sl7 sl8 sl9 sl10 sl11 sl12 sl13 sl14 sl15 sl16 : Array (Option Value)}
  (a0 : PySem.W.nsIn K mainGlobals "SignError" = some (some (.ref c0)))
  (a1 : PySem.W.nsIn K mainGlobals "BadPeople" = some (some (.ref c1)))
  (iC1 : PySem.W.findIn K (.ref c1) "__init__" = some (some (.ref i1)))
  (tI1 : PySem.W.typeIn K (.ref i1) = some (.type "function"))
  (l1 : K.lookup i1 = some ⟨oc1, od1, .func (PySem.W.fnOf "__init__" "BadPeople.__init__" (defArgs sI_BadPeople) (defBody sI_BadPeople) (defScope sI_BadPeople) .none kV1 do1 pm1 an1 cd1 ct1), sl1⟩)
  (q1 : PySem.W.codeIn K cd1 "BadPeople.__init__" = true)
  (k1 : PySem.W.keepIn K (.ref i1) = true)
  (e1 : PySem.W.excInitIn K c1 [.type "ValueError", .type "Exception", .type "BaseException", .type "object"] "ValueError.__new__" = true)
  (o1 : PySem.W.excOver K c1 [.type "ValueError", .type "Exception", .type "BaseException", .type "object"] = true)
  (sa1 : PySem.W.findIn K (.ref c1) "__setattr__" = some (some (.builtin "object.__setattr__")))
  (no1 : PySem.W.findIn K (.ref c1) "value" = some none)
  (hd1 : PySem.W.hasDictIn K c1 = true)
  (kC1 : PySem.W.keepIn K (.ref c1) = true)
  (ex1 : PySem.W.subIn K (.ref c1) (.type "BaseException") = some true)
  (ty1 : PySem.W.typeIn K (.ref c1) = some (.type "type"))
  (ga1 : PySem.W.findIn K (.ref c1) "__getattribute__" = some (some (.builtin "BaseException.__getattribute__")))
  (gt1 : PySem.W.findIn K (.ref c1) "__getattr__" = some none)
  (ha1 : PySem.W.findIn K (.ref c1) "__class__" = some (some (.builtin "object.__class__")))
  (hm1 : PySem.W.mroIn K c1 (.type "object") = some true)
  (a2 : PySem.W.nsIn K mainGlobals "BadLot" = some (some (.ref c2)))
  (iC2 : PySem.W.findIn K (.ref c2) "__init__" = some (some (.ref i2)))
  (tI2 : PySem.W.typeIn K (.ref i2) = some (.type "function"))
  (l2 : K.lookup i2 = some ⟨oc2, od2, .func (PySem.W.fnOf "__init__" "BadLot.__init__" (defArgs sI_BadLot) (defBody sI_BadLot) (defScope sI_BadLot) .none kV2 do2 pm2 an2 cd2 ct2), sl2⟩)
  (q2 : PySem.W.codeIn K cd2 "BadLot.__init__" = true)
  (k2 : PySem.W.keepIn K (.ref i2) = true)
  (e2 : PySem.W.excInitIn K c2 [.type "ValueError", .type "Exception", .type "BaseException", .type "object"] "ValueError.__new__" = true)
  (o2 : PySem.W.excOver K c2 [.type "ValueError", .type "Exception", .type "BaseException", .type "object"] = true)
  (sa2 : PySem.W.findIn K (.ref c2) "__setattr__" = some (some (.builtin "object.__setattr__")))
  (no2 : PySem.W.findIn K (.ref c2) "value" = some none)
  (hd2 : PySem.W.hasDictIn K c2 = true)
  (kC2 : PySem.W.keepIn K (.ref c2) = true)
  (ex2 : PySem.W.subIn K (.ref c2) (.type "BaseException") = some true)
  (ty2 : PySem.W.typeIn K (.ref c2) = some (.type "type"))
  (ga2 : PySem.W.findIn K (.ref c2) "__getattribute__" = some (some (.builtin "BaseException.__getattribute__")))
  (gt2 : PySem.W.findIn K (.ref c2) "__getattr__" = some none)
  (ha2 : PySem.W.findIn K (.ref c2) "__class__" = some (some (.builtin "object.__class__")))
  (hm2 : PySem.W.mroIn K c2 (.type "object") = some true)
  (a3 : PySem.W.nsIn K mainGlobals "BadClause" = some (some (.ref c3)))
  (iC3 : PySem.W.findIn K (.ref c3) "__init__" = some (some (.ref i3)))
  (tI3 : PySem.W.typeIn K (.ref i3) = some (.type "function"))
  (l3 : K.lookup i3 = some ⟨oc3, od3, .func (PySem.W.fnOf "__init__" "BadClause.__init__" (defArgs sI_BadClause) (defBody sI_BadClause) (defScope sI_BadClause) .none kV3 do3 pm3 an3 cd3 ct3), sl3⟩)
  (q3 : PySem.W.codeIn K cd3 "BadClause.__init__" = true)
  (k3 : PySem.W.keepIn K (.ref i3) = true)
  (e3 : PySem.W.excInitIn K c3 [.type "ValueError", .type "Exception", .type "BaseException", .type "object"] "ValueError.__new__" = true)
  (o3 : PySem.W.excOver K c3 [.type "ValueError", .type "Exception", .type "BaseException", .type "object"] = true)
  (sa3 : PySem.W.findIn K (.ref c3) "__setattr__" = some (some (.builtin "object.__setattr__")))
  (no3 : PySem.W.findIn K (.ref c3) "place" = some none)
  (hd3 : PySem.W.hasDictIn K c3 = true)
  (kC3 : PySem.W.keepIn K (.ref c3) = true)
  (ex3 : PySem.W.subIn K (.ref c3) (.type "BaseException") = some true)
  (ty3 : PySem.W.typeIn K (.ref c3) = some (.type "type"))
  (ga3 : PySem.W.findIn K (.ref c3) "__getattribute__" = some (some (.builtin "BaseException.__getattribute__")))
  (gt3 : PySem.W.findIn K (.ref c3) "__getattr__" = some none)
  (ha3 : PySem.W.findIn K (.ref c3) "__class__" = some (some (.builtin "object.__class__")))
  (hm3 : PySem.W.mroIn K c3 (.type "object") = some true)
  (a4 : PySem.W.nsIn K mainGlobals "BadBook" = some (some (.ref c4)))
  (iC4 : PySem.W.findIn K (.ref c4) "__init__" = some (some (.ref i4)))
  (tI4 : PySem.W.typeIn K (.ref i4) = some (.type "function"))
  (l4 : K.lookup i4 = some ⟨oc4, od4, .func (PySem.W.fnOf "__init__" "BadBook.__init__" (defArgs sI_BadBook) (defBody sI_BadBook) (defScope sI_BadBook) .none kV4 do4 pm4 an4 cd4 ct4), sl4⟩)
  (q4 : PySem.W.codeIn K cd4 "BadBook.__init__" = true)
  (k4 : PySem.W.keepIn K (.ref i4) = true)
  (e4 : PySem.W.excInitIn K c4 [.type "ValueError", .type "Exception", .type "BaseException", .type "object"] "ValueError.__new__" = true)
  (o4 : PySem.W.excOver K c4 [.type "ValueError", .type "Exception", .type "BaseException", .type "object"] = true)
  (sa4 : PySem.W.findIn K (.ref c4) "__setattr__" = some (some (.builtin "object.__setattr__")))
  (no4 : PySem.W.findIn K (.ref c4) "place" = some none)
  (hd4 : PySem.W.hasDictIn K c4 = true)
  (kC4 : PySem.W.keepIn K (.ref c4) = true)
  (ex4 : PySem.W.subIn K (.ref c4) (.type "BaseException") = some true)
  (ty4 : PySem.W.typeIn K (.ref c4) = some (.type "type"))
  (ga4 : PySem.W.findIn K (.ref c4) "__getattribute__" = some (some (.builtin "BaseException.__getattribute__")))
  (gt4 : PySem.W.findIn K (.ref c4) "__getattr__" = some none)
  (ha4 : PySem.W.findIn K (.ref c4) "__class__" = some (some (.builtin "object.__class__")))
  (hm4 : PySem.W.mroIn K c4 (.type "object") = some true)
  (a5 : PySem.W.nsIn K mainGlobals "BadRow" = some (some (.ref c5)))
  (iC5 : PySem.W.findIn K (.ref c5) "__init__" = some (some (.ref i5)))
  (tI5 : PySem.W.typeIn K (.ref i5) = some (.type "function"))
  (l5 : K.lookup i5 = some ⟨oc5, od5, .func (PySem.W.fnOf "__init__" "BadRow.__init__" (defArgs sI_BadRow) (defBody sI_BadRow) (defScope sI_BadRow) .none kV5 do5 pm5 an5 cd5 ct5), sl5⟩)
  (q5 : PySem.W.codeIn K cd5 "BadRow.__init__" = true)
  (k5 : PySem.W.keepIn K (.ref i5) = true)
  (e5 : PySem.W.excInitIn K c5 [.type "ValueError", .type "Exception", .type "BaseException", .type "object"] "ValueError.__new__" = true)
  (o5 : PySem.W.excOver K c5 [.type "ValueError", .type "Exception", .type "BaseException", .type "object"] = true)
  (sa5 : PySem.W.findIn K (.ref c5) "__setattr__" = some (some (.builtin "object.__setattr__")))
  (no5 : PySem.W.findIn K (.ref c5) "value" = some none)
  (hd5 : PySem.W.hasDictIn K c5 = true)
  (kC5 : PySem.W.keepIn K (.ref c5) = true)
  (ex5 : PySem.W.subIn K (.ref c5) (.type "BaseException") = some true)
  (ty5 : PySem.W.typeIn K (.ref c5) = some (.type "type"))
  (ga5 : PySem.W.findIn K (.ref c5) "__getattribute__" = some (some (.builtin "BaseException.__getattribute__")))
  (gt5 : PySem.W.findIn K (.ref c5) "__getattr__" = some none)
  (ha5 : PySem.W.findIn K (.ref c5) "__class__" = some (some (.builtin "object.__class__")))
  (hm5 : PySem.W.mroIn K c5 (.type "object") = some true)
  (a6 : PySem.W.nsIn K mainGlobals "BadWish" = some (some (.ref c6)))
  (iC6 : PySem.W.findIn K (.ref c6) "__init__" = some (some (.ref i6)))
  (tI6 : PySem.W.typeIn K (.ref i6) = some (.type "function"))
  (l6 : K.lookup i6 = some ⟨oc6, od6, .func (PySem.W.fnOf "__init__" "BadWish.__init__" (defArgs sI_BadWish) (defBody sI_BadWish) (defScope sI_BadWish) .none kV6 do6 pm6 an6 cd6 ct6), sl6⟩)
  (q6 : PySem.W.codeIn K cd6 "BadWish.__init__" = true)
  (k6 : PySem.W.keepIn K (.ref i6) = true)
  (e6 : PySem.W.excInitIn K c6 [.type "ValueError", .type "Exception", .type "BaseException", .type "object"] "ValueError.__new__" = true)
  (o6 : PySem.W.excOver K c6 [.type "ValueError", .type "Exception", .type "BaseException", .type "object"] = true)
  (sa6 : PySem.W.findIn K (.ref c6) "__setattr__" = some (some (.builtin "object.__setattr__")))
  (no6 : PySem.W.findIn K (.ref c6) "value" = some none)
  (hd6 : PySem.W.hasDictIn K c6 = true)
  (kC6 : PySem.W.keepIn K (.ref c6) = true)
  (ex6 : PySem.W.subIn K (.ref c6) (.type "BaseException") = some true)
  (ty6 : PySem.W.typeIn K (.ref c6) = some (.type "type"))
  (ga6 : PySem.W.findIn K (.ref c6) "__getattribute__" = some (some (.builtin "BaseException.__getattribute__")))
  (gt6 : PySem.W.findIn K (.ref c6) "__getattr__" = some none)
  (ha6 : PySem.W.findIn K (.ref c6) "__class__" = some (some (.builtin "object.__class__")))
  (hm6 : PySem.W.mroIn K c6 (.type "object") = some true)
  (a7 : PySem.W.nsIn K mainGlobals "BadNumber" = some (some (.ref c7)))
  (iC7 : PySem.W.findIn K (.ref c7) "__init__" = some (some (.ref i7)))
  (tI7 : PySem.W.typeIn K (.ref i7) = some (.type "function"))
  (l7 : K.lookup i7 = some ⟨oc7, od7, .func (PySem.W.fnOf "__init__" "BadNumber.__init__" (defArgs sI_BadNumber) (defBody sI_BadNumber) (defScope sI_BadNumber) .none kV7 do7 pm7 an7 cd7 ct7), sl7⟩)
  (q7 : PySem.W.codeIn K cd7 "BadNumber.__init__" = true)
  (k7 : PySem.W.keepIn K (.ref i7) = true)
  (e7 : PySem.W.excInitIn K c7 [.type "ValueError", .type "Exception", .type "BaseException", .type "object"] "ValueError.__new__" = true)
  (o7 : PySem.W.excOver K c7 [.type "ValueError", .type "Exception", .type "BaseException", .type "object"] = true)
  (sa7 : PySem.W.findIn K (.ref c7) "__setattr__" = some (some (.builtin "object.__setattr__")))
  (no7 : PySem.W.findIn K (.ref c7) "value" = some none)
  (hd7 : PySem.W.hasDictIn K c7 = true)
  (kC7 : PySem.W.keepIn K (.ref c7) = true)
  (ex7 : PySem.W.subIn K (.ref c7) (.type "BaseException") = some true)
  (ty7 : PySem.W.typeIn K (.ref c7) = some (.type "type"))
  (ga7 : PySem.W.findIn K (.ref c7) "__getattribute__" = some (some (.builtin "BaseException.__getattribute__")))
  (gt7 : PySem.W.findIn K (.ref c7) "__getattr__" = some none)
  (ha7 : PySem.W.findIn K (.ref c7) "__class__" = some (some (.builtin "object.__class__")))
  (hm7 : PySem.W.mroIn K c7 (.type "object") = some true)
  (a8 : PySem.W.nsIn K mainGlobals "BadPaper" = some (some (.ref c8)))
  (iC8 : PySem.W.findIn K (.ref c8) "__init__" = some (some (.ref i8)))
  (tI8 : PySem.W.typeIn K (.ref i8) = some (.type "function"))
  (l8 : K.lookup i8 = some ⟨oc8, od8, .func (PySem.W.fnOf "__init__" "BadPaper.__init__" (defArgs sI_BadPaper) (defBody sI_BadPaper) (defScope sI_BadPaper) .none kV8 do8 pm8 an8 cd8 ct8), sl8⟩)
  (q8 : PySem.W.codeIn K cd8 "BadPaper.__init__" = true)
  (k8 : PySem.W.keepIn K (.ref i8) = true)
  (e8 : PySem.W.excInitIn K c8 [.type "ValueError", .type "Exception", .type "BaseException", .type "object"] "ValueError.__new__" = true)
  (o8 : PySem.W.excOver K c8 [.type "ValueError", .type "Exception", .type "BaseException", .type "object"] = true)
  (sa8 : PySem.W.findIn K (.ref c8) "__setattr__" = some (some (.builtin "object.__setattr__")))
  (no8 : PySem.W.findIn K (.ref c8) "place" = some none)
  (hd8 : PySem.W.hasDictIn K c8 = true)
  (kC8 : PySem.W.keepIn K (.ref c8) = true)
  (ex8 : PySem.W.subIn K (.ref c8) (.type "BaseException") = some true)
  (ty8 : PySem.W.typeIn K (.ref c8) = some (.type "type"))
  (ga8 : PySem.W.findIn K (.ref c8) "__getattribute__" = some (some (.builtin "BaseException.__getattribute__")))
  (gt8 : PySem.W.findIn K (.ref c8) "__getattr__" = some none)
  (ha8 : PySem.W.findIn K (.ref c8) "__class__" = some (some (.builtin "object.__class__")))
  (hm8 : PySem.W.mroIn K c8 (.type "object") = some true)
  (a9 : PySem.W.nsIn K mainGlobals "BadText" = some (some (.ref c9)))
  (iC9 : PySem.W.findIn K (.ref c9) "__init__" = some (some (.ref i9)))
  (tI9 : PySem.W.typeIn K (.ref i9) = some (.type "function"))
  (l9 : K.lookup i9 = some ⟨oc9, od9, .func (PySem.W.fnOf "__init__" "BadText.__init__" (defArgs sI_BadText) (defBody sI_BadText) (defScope sI_BadText) .none kV9 do9 pm9 an9 cd9 ct9), sl9⟩)
  (q9 : PySem.W.codeIn K cd9 "BadText.__init__" = true)
  (k9 : PySem.W.keepIn K (.ref i9) = true)
  (e9 : PySem.W.excInitIn K c9 [.type "ValueError", .type "Exception", .type "BaseException", .type "object"] "ValueError.__new__" = true)
  (o9 : PySem.W.excOver K c9 [.type "ValueError", .type "Exception", .type "BaseException", .type "object"] = true)
  (sa9 : PySem.W.findIn K (.ref c9) "__setattr__" = some (some (.builtin "object.__setattr__")))
  (no9 : PySem.W.findIn K (.ref c9) "line" = some none)
  (hd9 : PySem.W.hasDictIn K c9 = true)
  (kC9 : PySem.W.keepIn K (.ref c9) = true)
  (ex9 : PySem.W.subIn K (.ref c9) (.type "BaseException") = some true)
  (ty9 : PySem.W.typeIn K (.ref c9) = some (.type "type"))
  (ga9 : PySem.W.findIn K (.ref c9) "__getattribute__" = some (some (.builtin "BaseException.__getattribute__")))
  (gt9 : PySem.W.findIn K (.ref c9) "__getattr__" = some none)
  (ha9 : PySem.W.findIn K (.ref c9) "__class__" = some (some (.builtin "object.__class__")))
  (hm9 : PySem.W.mroIn K c9 (.type "object") = some true)
  (a10 : PySem.W.nsIn K mainGlobals "TooMany" = some (some (.ref c10)))
  (iC10 : PySem.W.findIn K (.ref c10) "__init__" = some (some (.ref i10)))
  (tI10 : PySem.W.typeIn K (.ref i10) = some (.type "function"))
  (l10 : K.lookup i10 = some ⟨oc10, od10, .func (PySem.W.fnOf "__init__" "TooMany.__init__" (defArgs sI_TooMany) (defBody sI_TooMany) (defScope sI_TooMany) .none kV10 do10 pm10 an10 cd10 ct10), sl10⟩)
  (q10 : PySem.W.codeIn K cd10 "TooMany.__init__" = true)
  (k10 : PySem.W.keepIn K (.ref i10) = true)
  (e10 : PySem.W.excInitIn K c10 [.type "OverflowError", .type "ArithmeticError", .type "Exception", .type "BaseException", .type "object"] "OverflowError.__new__" = true)
  (o10 : PySem.W.excOver K c10 [.type "OverflowError", .type "ArithmeticError", .type "Exception", .type "BaseException", .type "object"] = true)
  (sa10 : PySem.W.findIn K (.ref c10) "__setattr__" = some (some (.builtin "object.__setattr__")))
  (no10 : PySem.W.findIn K (.ref c10) "most" = some none)
  (hd10 : PySem.W.hasDictIn K c10 = true)
  (kC10 : PySem.W.keepIn K (.ref c10) = true)
  (ex10 : PySem.W.subIn K (.ref c10) (.type "BaseException") = some true)
  (ty10 : PySem.W.typeIn K (.ref c10) = some (.type "type"))
  (ga10 : PySem.W.findIn K (.ref c10) "__getattribute__" = some (some (.builtin "BaseException.__getattribute__")))
  (gt10 : PySem.W.findIn K (.ref c10) "__getattr__" = some none)
  (ha10 : PySem.W.findIn K (.ref c10) "__class__" = some (some (.builtin "object.__class__")))
  (hm10 : PySem.W.mroIn K c10 (.type "object") = some true)
  (hn : PySem.W.specialIn K (.builtin "object.__class__") "__get__" = some (some (.builtin "getset_descriptor.__get__")))
  (ht : PySem.W.takesIn K (.builtin "object.__class__") = some true)
  (x1_1 : PySem.W.kitOne K (.ref c1) (.ref c1) = some true)
  (x1_2 : PySem.W.kitOne K (.ref c1) (.ref c2) = some false)
  (x1_3 : PySem.W.kitOne K (.ref c1) (.ref c3) = some false)
  (x1_4 : PySem.W.kitOne K (.ref c1) (.ref c4) = some false)
  (x1_5 : PySem.W.kitOne K (.ref c1) (.ref c5) = some false)
  (x1_6 : PySem.W.kitOne K (.ref c1) (.ref c6) = some false)
  (x1_7 : PySem.W.kitOne K (.ref c1) (.ref c7) = some false)
  (x1_8 : PySem.W.kitOne K (.ref c1) (.ref c8) = some false)
  (x1_9 : PySem.W.kitOne K (.ref c1) (.ref c9) = some false)
  (x1_10 : PySem.W.kitOne K (.ref c1) (.ref c10) = some false)
  (x1_0 : PySem.W.kitOne K (.ref c1) (.ref c0) = some true)
  (x1_v : PySem.W.kitOne K (.ref c1) (.type "ValueError") = some true)
  (x1_l : PySem.W.kitOne K (.ref c1) (.type "LookupError") = some false)
  (x1_o : PySem.W.kitOne K (.ref c1) (.type "OverflowError") = some false)
  (x2_1 : PySem.W.kitOne K (.ref c2) (.ref c1) = some false)
  (x2_2 : PySem.W.kitOne K (.ref c2) (.ref c2) = some true)
  (x2_3 : PySem.W.kitOne K (.ref c2) (.ref c3) = some false)
  (x2_4 : PySem.W.kitOne K (.ref c2) (.ref c4) = some false)
  (x2_5 : PySem.W.kitOne K (.ref c2) (.ref c5) = some false)
  (x2_6 : PySem.W.kitOne K (.ref c2) (.ref c6) = some false)
  (x2_7 : PySem.W.kitOne K (.ref c2) (.ref c7) = some false)
  (x2_8 : PySem.W.kitOne K (.ref c2) (.ref c8) = some false)
  (x2_9 : PySem.W.kitOne K (.ref c2) (.ref c9) = some false)
  (x2_10 : PySem.W.kitOne K (.ref c2) (.ref c10) = some false)
  (x2_0 : PySem.W.kitOne K (.ref c2) (.ref c0) = some true)
  (x2_v : PySem.W.kitOne K (.ref c2) (.type "ValueError") = some true)
  (x2_l : PySem.W.kitOne K (.ref c2) (.type "LookupError") = some false)
  (x2_o : PySem.W.kitOne K (.ref c2) (.type "OverflowError") = some false)
  (x3_1 : PySem.W.kitOne K (.ref c3) (.ref c1) = some false)
  (x3_2 : PySem.W.kitOne K (.ref c3) (.ref c2) = some false)
  (x3_3 : PySem.W.kitOne K (.ref c3) (.ref c3) = some true)
  (x3_4 : PySem.W.kitOne K (.ref c3) (.ref c4) = some false)
  (x3_5 : PySem.W.kitOne K (.ref c3) (.ref c5) = some false)
  (x3_6 : PySem.W.kitOne K (.ref c3) (.ref c6) = some false)
  (x3_7 : PySem.W.kitOne K (.ref c3) (.ref c7) = some false)
  (x3_8 : PySem.W.kitOne K (.ref c3) (.ref c8) = some false)
  (x3_9 : PySem.W.kitOne K (.ref c3) (.ref c9) = some false)
  (x3_10 : PySem.W.kitOne K (.ref c3) (.ref c10) = some false)
  (x3_0 : PySem.W.kitOne K (.ref c3) (.ref c0) = some true)
  (x3_v : PySem.W.kitOne K (.ref c3) (.type "ValueError") = some true)
  (x3_l : PySem.W.kitOne K (.ref c3) (.type "LookupError") = some false)
  (x3_o : PySem.W.kitOne K (.ref c3) (.type "OverflowError") = some false)
  (x4_1 : PySem.W.kitOne K (.ref c4) (.ref c1) = some false)
  (x4_2 : PySem.W.kitOne K (.ref c4) (.ref c2) = some false)
  (x4_3 : PySem.W.kitOne K (.ref c4) (.ref c3) = some false)
  (x4_4 : PySem.W.kitOne K (.ref c4) (.ref c4) = some true)
  (x4_5 : PySem.W.kitOne K (.ref c4) (.ref c5) = some false)
  (x4_6 : PySem.W.kitOne K (.ref c4) (.ref c6) = some false)
  (x4_7 : PySem.W.kitOne K (.ref c4) (.ref c7) = some false)
  (x4_8 : PySem.W.kitOne K (.ref c4) (.ref c8) = some false)
  (x4_9 : PySem.W.kitOne K (.ref c4) (.ref c9) = some false)
  (x4_10 : PySem.W.kitOne K (.ref c4) (.ref c10) = some false)
  (x4_0 : PySem.W.kitOne K (.ref c4) (.ref c0) = some true)
  (x4_v : PySem.W.kitOne K (.ref c4) (.type "ValueError") = some true)
  (x4_l : PySem.W.kitOne K (.ref c4) (.type "LookupError") = some false)
  (x4_o : PySem.W.kitOne K (.ref c4) (.type "OverflowError") = some false)
  (x5_1 : PySem.W.kitOne K (.ref c5) (.ref c1) = some false)
  (x5_2 : PySem.W.kitOne K (.ref c5) (.ref c2) = some false)
  (x5_3 : PySem.W.kitOne K (.ref c5) (.ref c3) = some false)
  (x5_4 : PySem.W.kitOne K (.ref c5) (.ref c4) = some false)
  (x5_5 : PySem.W.kitOne K (.ref c5) (.ref c5) = some true)
  (x5_6 : PySem.W.kitOne K (.ref c5) (.ref c6) = some false)
  (x5_7 : PySem.W.kitOne K (.ref c5) (.ref c7) = some false)
  (x5_8 : PySem.W.kitOne K (.ref c5) (.ref c8) = some false)
  (x5_9 : PySem.W.kitOne K (.ref c5) (.ref c9) = some false)
  (x5_10 : PySem.W.kitOne K (.ref c5) (.ref c10) = some false)
  (x5_0 : PySem.W.kitOne K (.ref c5) (.ref c0) = some true)
  (x5_v : PySem.W.kitOne K (.ref c5) (.type "ValueError") = some true)
  (x5_l : PySem.W.kitOne K (.ref c5) (.type "LookupError") = some false)
  (x5_o : PySem.W.kitOne K (.ref c5) (.type "OverflowError") = some false)
  (x6_1 : PySem.W.kitOne K (.ref c6) (.ref c1) = some false)
  (x6_2 : PySem.W.kitOne K (.ref c6) (.ref c2) = some false)
  (x6_3 : PySem.W.kitOne K (.ref c6) (.ref c3) = some false)
  (x6_4 : PySem.W.kitOne K (.ref c6) (.ref c4) = some false)
  (x6_5 : PySem.W.kitOne K (.ref c6) (.ref c5) = some false)
  (x6_6 : PySem.W.kitOne K (.ref c6) (.ref c6) = some true)
  (x6_7 : PySem.W.kitOne K (.ref c6) (.ref c7) = some false)
  (x6_8 : PySem.W.kitOne K (.ref c6) (.ref c8) = some false)
  (x6_9 : PySem.W.kitOne K (.ref c6) (.ref c9) = some false)
  (x6_10 : PySem.W.kitOne K (.ref c6) (.ref c10) = some false)
  (x6_0 : PySem.W.kitOne K (.ref c6) (.ref c0) = some true)
  (x6_v : PySem.W.kitOne K (.ref c6) (.type "ValueError") = some true)
  (x6_l : PySem.W.kitOne K (.ref c6) (.type "LookupError") = some false)
  (x6_o : PySem.W.kitOne K (.ref c6) (.type "OverflowError") = some false)
  (x7_1 : PySem.W.kitOne K (.ref c7) (.ref c1) = some false)
  (x7_2 : PySem.W.kitOne K (.ref c7) (.ref c2) = some false)
  (x7_3 : PySem.W.kitOne K (.ref c7) (.ref c3) = some false)
  (x7_4 : PySem.W.kitOne K (.ref c7) (.ref c4) = some false)
  (x7_5 : PySem.W.kitOne K (.ref c7) (.ref c5) = some false)
  (x7_6 : PySem.W.kitOne K (.ref c7) (.ref c6) = some false)
  (x7_7 : PySem.W.kitOne K (.ref c7) (.ref c7) = some true)
  (x7_8 : PySem.W.kitOne K (.ref c7) (.ref c8) = some false)
  (x7_9 : PySem.W.kitOne K (.ref c7) (.ref c9) = some false)
  (x7_10 : PySem.W.kitOne K (.ref c7) (.ref c10) = some false)
  (x7_0 : PySem.W.kitOne K (.ref c7) (.ref c0) = some true)
  (x7_v : PySem.W.kitOne K (.ref c7) (.type "ValueError") = some true)
  (x7_l : PySem.W.kitOne K (.ref c7) (.type "LookupError") = some false)
  (x7_o : PySem.W.kitOne K (.ref c7) (.type "OverflowError") = some false)
  (x8_1 : PySem.W.kitOne K (.ref c8) (.ref c1) = some false)
  (x8_2 : PySem.W.kitOne K (.ref c8) (.ref c2) = some false)
  (x8_3 : PySem.W.kitOne K (.ref c8) (.ref c3) = some false)
  (x8_4 : PySem.W.kitOne K (.ref c8) (.ref c4) = some false)
  (x8_5 : PySem.W.kitOne K (.ref c8) (.ref c5) = some false)
  (x8_6 : PySem.W.kitOne K (.ref c8) (.ref c6) = some false)
  (x8_7 : PySem.W.kitOne K (.ref c8) (.ref c7) = some false)
  (x8_8 : PySem.W.kitOne K (.ref c8) (.ref c8) = some true)
  (x8_9 : PySem.W.kitOne K (.ref c8) (.ref c9) = some false)
  (x8_10 : PySem.W.kitOne K (.ref c8) (.ref c10) = some false)
  (x8_0 : PySem.W.kitOne K (.ref c8) (.ref c0) = some true)
  (x8_v : PySem.W.kitOne K (.ref c8) (.type "ValueError") = some true)
  (x8_l : PySem.W.kitOne K (.ref c8) (.type "LookupError") = some false)
  (x8_o : PySem.W.kitOne K (.ref c8) (.type "OverflowError") = some false)
  (x9_1 : PySem.W.kitOne K (.ref c9) (.ref c1) = some false)
  (x9_2 : PySem.W.kitOne K (.ref c9) (.ref c2) = some false)
  (x9_3 : PySem.W.kitOne K (.ref c9) (.ref c3) = some false)
  (x9_4 : PySem.W.kitOne K (.ref c9) (.ref c4) = some false)
  (x9_5 : PySem.W.kitOne K (.ref c9) (.ref c5) = some false)
  (x9_6 : PySem.W.kitOne K (.ref c9) (.ref c6) = some false)
  (x9_7 : PySem.W.kitOne K (.ref c9) (.ref c7) = some false)
  (x9_8 : PySem.W.kitOne K (.ref c9) (.ref c8) = some false)
  (x9_9 : PySem.W.kitOne K (.ref c9) (.ref c9) = some true)
  (x9_10 : PySem.W.kitOne K (.ref c9) (.ref c10) = some false)
  (x9_0 : PySem.W.kitOne K (.ref c9) (.ref c0) = some true)
  (x9_v : PySem.W.kitOne K (.ref c9) (.type "ValueError") = some true)
  (x9_l : PySem.W.kitOne K (.ref c9) (.type "LookupError") = some false)
  (x9_o : PySem.W.kitOne K (.ref c9) (.type "OverflowError") = some false)
  (x10_1 : PySem.W.kitOne K (.ref c10) (.ref c1) = some false)
  (x10_2 : PySem.W.kitOne K (.ref c10) (.ref c2) = some false)
  (x10_3 : PySem.W.kitOne K (.ref c10) (.ref c3) = some false)
  (x10_4 : PySem.W.kitOne K (.ref c10) (.ref c4) = some false)
  (x10_5 : PySem.W.kitOne K (.ref c10) (.ref c5) = some false)
  (x10_6 : PySem.W.kitOne K (.ref c10) (.ref c6) = some false)
  (x10_7 : PySem.W.kitOne K (.ref c10) (.ref c7) = some false)
  (x10_8 : PySem.W.kitOne K (.ref c10) (.ref c8) = some false)
  (x10_9 : PySem.W.kitOne K (.ref c10) (.ref c9) = some false)
  (x10_10 : PySem.W.kitOne K (.ref c10) (.ref c10) = some true)
  (x10_0 : PySem.W.kitOne K (.ref c10) (.ref c0) = some false)
  (x10_v : PySem.W.kitOne K (.ref c10) (.type "ValueError") = some false)
  (x10_l : PySem.W.kitOne K (.ref c10) (.type "LookupError") = some false)
  (x10_o : PySem.W.kitOne K (.ref c10) (.type "OverflowError") = some true)
  (a11 : PySem.W.nsIn K mainGlobals "_law_begun" = some (some (.ref f11)))
  (l11 : K.lookup f11 = some ⟨oc11, od11, .func (PySem.W.fnOf "_law_begun" "_law_begun" (defArgs s__law_begun) (defBody s__law_begun) (defScope s__law_begun) .none kV11 do11 pm11 an11 cd11 ct11), sl11⟩)
  (q11 : PySem.W.codeIn K cd11 "_law_begun" = true)
  (k11 : PySem.W.keepIn K (.ref f11) = true)
  (a12 : PySem.W.nsIn K mainGlobals "_law_next" = some (some (.ref f12)))
  (l12 : K.lookup f12 = some ⟨oc12, od12, .func (PySem.W.fnOf "_law_next" "_law_next" (defArgs s__law_next) (defBody s__law_next) (defScope s__law_next) .none kV12 do12 pm12 an12 cd12 ct12), sl12⟩)
  (q12 : PySem.W.codeIn K cd12 "_law_next" = true)
  (k12 : PySem.W.keepIn K (.ref f12) = true)
  (a13 : PySem.W.nsIn K mainGlobals "_law_value" = some (some (.ref f13)))
  (l13 : K.lookup f13 = some ⟨oc13, od13, .func (PySem.W.fnOf "_law_value" "_law_value" (defArgs s__law_value) (defBody s__law_value) (defScope s__law_value) .none kV13 do13 pm13 an13 cd13 ct13), sl13⟩)
  (q13 : PySem.W.codeIn K cd13 "_law_value" = true)
  (k13 : PySem.W.keepIn K (.ref f13) = true)
  (a14 : PySem.W.nsIn K mainGlobals "_law_kinds" = some (some (.ref f14)))
  (l14 : K.lookup f14 = some ⟨oc14, od14, .func (PySem.W.fnOf "_law_kinds" "_law_kinds" (defArgs s__law_kinds) (defBody s__law_kinds) (defScope s__law_kinds) .none kV14 do14 pm14 an14 cd14 ct14), sl14⟩)
  (q14 : PySem.W.codeIn K cd14 "_law_kinds" = true)
  (k14 : PySem.W.keepIn K (.ref f14) = true)
  (a15 : PySem.W.nsIn K mainGlobals "_law_field" = some (some (.ref f15)))
  (l15 : K.lookup f15 = some ⟨oc15, od15, .func (PySem.W.fnOf "_law_field" "_law_field" (defArgs s__law_field) (defBody s__law_field) (defScope s__law_field) .none kV15 do15 pm15 an15 cd15 ct15), sl15⟩)
  (q15 : PySem.W.codeIn K cd15 "_law_field" = true)
  (k15 : PySem.W.keepIn K (.ref f15) = true)
  (a16 : PySem.W.nsIn K mainGlobals "law" = some (some (.ref f16)))
  (l16 : K.lookup f16 = some ⟨oc16, od16, .func (PySem.W.fnOf "law" "law" (defArgs s_law) (defBody s_law) (defScope s_law) .none kV16 do16 pm16 an16 cd16 ct16), sl16⟩)
  (q16 : PySem.W.codeIn K cd16 "law" = true)
  (k16 : PySem.W.keepIn K (.ref f16) = true)
  (n_LookupError : PySem.W.nsIn K mainGlobals "LookupError" = some none)
  (n_OverflowError : PySem.W.nsIn K mainGlobals "OverflowError" = some none)
  (n_ValueError : PySem.W.nsIn K mainGlobals "ValueError" = some none)
  (n_enumerate : PySem.W.nsIn K mainGlobals "enumerate" = some none)
  (n_int : PySem.W.nsIn K mainGlobals "int" = some none)
  (n_isinstance : PySem.W.nsIn K mainGlobals "isinstance" = some none)
  (n_len : PySem.W.nsIn K mainGlobals "len" = some none)
  (n_list : PySem.W.nsIn K mainGlobals "list" = some none)
  (n_min : PySem.W.nsIn K mainGlobals "min" = some none)
  (n_range : PySem.W.nsIn K mainGlobals "range" = some none)
  (n_repr : PySem.W.nsIn K mainGlobals "repr" = some none)
  : ∃ fd : FuncData, (∀ (s : Shared) (v : Value), BindsTo s fd ⟨[v], []⟩ [("script", v)]) ∧ ∀ base : Heap, K.In base → base.Ns mainGlobals mg → FnG l.prog w K mg base 4 fa fd ["script"] (spLaw K 63) := by
  have e := hfa.symm.trans (PySem.W.mg_of X G a16)
  cases e
  let A : Adr := { c_SignError := c0, c_BadPeople := c1, i_BadPeople := i1, d_BadPeople := (PySem.W.fnOf "__init__" "BadPeople.__init__" (defArgs sI_BadPeople) (defBody sI_BadPeople) (defScope sI_BadPeople) .none kV1 do1 pm1 an1 cd1 ct1), c_BadLot := c2, i_BadLot := i2, d_BadLot := (PySem.W.fnOf "__init__" "BadLot.__init__" (defArgs sI_BadLot) (defBody sI_BadLot) (defScope sI_BadLot) .none kV2 do2 pm2 an2 cd2 ct2), c_BadClause := c3, i_BadClause := i3, d_BadClause := (PySem.W.fnOf "__init__" "BadClause.__init__" (defArgs sI_BadClause) (defBody sI_BadClause) (defScope sI_BadClause) .none kV3 do3 pm3 an3 cd3 ct3), c_BadBook := c4, i_BadBook := i4, d_BadBook := (PySem.W.fnOf "__init__" "BadBook.__init__" (defArgs sI_BadBook) (defBody sI_BadBook) (defScope sI_BadBook) .none kV4 do4 pm4 an4 cd4 ct4), c_BadRow := c5, i_BadRow := i5, d_BadRow := (PySem.W.fnOf "__init__" "BadRow.__init__" (defArgs sI_BadRow) (defBody sI_BadRow) (defScope sI_BadRow) .none kV5 do5 pm5 an5 cd5 ct5), c_BadWish := c6, i_BadWish := i6, d_BadWish := (PySem.W.fnOf "__init__" "BadWish.__init__" (defArgs sI_BadWish) (defBody sI_BadWish) (defScope sI_BadWish) .none kV6 do6 pm6 an6 cd6 ct6), c_BadNumber := c7, i_BadNumber := i7, d_BadNumber := (PySem.W.fnOf "__init__" "BadNumber.__init__" (defArgs sI_BadNumber) (defBody sI_BadNumber) (defScope sI_BadNumber) .none kV7 do7 pm7 an7 cd7 ct7), c_BadPaper := c8, i_BadPaper := i8, d_BadPaper := (PySem.W.fnOf "__init__" "BadPaper.__init__" (defArgs sI_BadPaper) (defBody sI_BadPaper) (defScope sI_BadPaper) .none kV8 do8 pm8 an8 cd8 ct8), c_BadText := c9, i_BadText := i9, d_BadText := (PySem.W.fnOf "__init__" "BadText.__init__" (defArgs sI_BadText) (defBody sI_BadText) (defScope sI_BadText) .none kV9 do9 pm9 an9 cd9 ct9), c_TooMany := c10, i_TooMany := i10, d_TooMany := (PySem.W.fnOf "__init__" "TooMany.__init__" (defArgs sI_TooMany) (defBody sI_TooMany) (defScope sI_TooMany) .none kV10 do10 pm10 an10 cd10 ct10), f__law_begun := f11, d__law_begun := (PySem.W.fnOf "_law_begun" "_law_begun" (defArgs s__law_begun) (defBody s__law_begun) (defScope s__law_begun) .none kV11 do11 pm11 an11 cd11 ct11), f__law_next := f12, d__law_next := (PySem.W.fnOf "_law_next" "_law_next" (defArgs s__law_next) (defBody s__law_next) (defScope s__law_next) .none kV12 do12 pm12 an12 cd12 ct12), f__law_value := f13, d__law_value := (PySem.W.fnOf "_law_value" "_law_value" (defArgs s__law_value) (defBody s__law_value) (defScope s__law_value) .none kV13 do13 pm13 an13 cd13 ct13), f__law_kinds := f14, d__law_kinds := (PySem.W.fnOf "_law_kinds" "_law_kinds" (defArgs s__law_kinds) (defBody s__law_kinds) (defScope s__law_kinds) .none kV14 do14 pm14 an14 cd14 ct14), f__law_field := f15, d__law_field := (PySem.W.fnOf "_law_field" "_law_field" (defArgs s__law_field) (defBody s__law_field) (defScope s__law_field) .none kV15 do15 pm15 an15 cd15 ct15), f_law := fa, d_law := (PySem.W.fnOf "law" "law" (defArgs s_law) (defBody s_law) (defScope s_law) .none kV16 do16 pm16 an16 cd16 ct16) }
  have F1 := fun_mk (st := sI_BadPeople) l1 q1 k1
  have F2 := fun_mk (st := sI_BadLot) l2 q2 k2
  have F3 := fun_mk (st := sI_BadClause) l3 q3 k3
  have F4 := fun_mk (st := sI_BadBook) l4 q4 k4
  have F5 := fun_mk (st := sI_BadRow) l5 q5 k5
  have F6 := fun_mk (st := sI_BadWish) l6 q6 k6
  have F7 := fun_mk (st := sI_BadNumber) l7 q7 k7
  have F8 := fun_mk (st := sI_BadPaper) l8 q8 k8
  have F9 := fun_mk (st := sI_BadText) l9 q9 k9
  have F10 := fun_mk (st := sI_TooMany) l10 q10 k10
  have F11 := fun_mk (st := s__law_begun) l11 q11 k11
  have F12 := fun_mk (st := s__law_next) l12 q12 k12
  have F13 := fun_mk (st := s__law_value) l13 q13 k13
  have F14 := fun_mk (st := s__law_kinds) l14 q14 k14
  have F15 := fun_mk (st := s__law_field) l15 q15 k15
  have F16 := fun_mk (st := s_law) l16 q16 k16
  have T : Txt K mg A := {
    n_LookupError := PySem.W.mg_none_of X G n_LookupError,
    n_OverflowError := PySem.W.mg_none_of X G n_OverflowError,
    n_ValueError := PySem.W.mg_none_of X G n_ValueError,
    n_enumerate := PySem.W.mg_none_of X G n_enumerate,
    n_int := PySem.W.mg_none_of X G n_int,
    n_isinstance := PySem.W.mg_none_of X G n_isinstance,
    n_len := PySem.W.mg_none_of X G n_len,
    n_list := PySem.W.mg_none_of X G n_list,
    n_min := PySem.W.mg_none_of X G n_min,
    n_range := PySem.W.mg_none_of X G n_range,
    n_repr := PySem.W.mg_none_of X G n_repr,
    m_SignError := PySem.W.mg_of X G a0,
    m_BadPeople := PySem.W.mg_of X G a1,
    em_BadPeople := ⟨⟨"ValueError", "ValueError.__new__", "ValueError.__init__", [.type "ValueError", .type "Exception", .type "BaseException", .type "object"], PySem.F.excBase_ValueError, PySem.F.store_ValueError, e1, o1⟩, sa1, no1, hd1, kC1, ex1, ty1, iC1, tI1⟩,
    ex_BadPeople := ⟨ga1, gt1, ex1, hd1, ha1, hn, ht, hm1⟩,
    F_BadPeople := F1,
    b_BadPeople := F1.binds fun _ _ _ _ _ _ us hl => match us, hl with | [_, _], _ => rfl,
    k_BadPeople := fun _ _ _ => .of_eq rfl,
    m_BadLot := PySem.W.mg_of X G a2,
    em_BadLot := ⟨⟨"ValueError", "ValueError.__new__", "ValueError.__init__", [.type "ValueError", .type "Exception", .type "BaseException", .type "object"], PySem.F.excBase_ValueError, PySem.F.store_ValueError, e2, o2⟩, sa2, no2, hd2, kC2, ex2, ty2, iC2, tI2⟩,
    ex_BadLot := ⟨ga2, gt2, ex2, hd2, ha2, hn, ht, hm2⟩,
    F_BadLot := F2,
    b_BadLot := F2.binds fun _ _ _ _ _ _ us hl => match us, hl with | [_, _], _ => rfl,
    k_BadLot := fun _ _ _ => .of_eq rfl,
    m_BadClause := PySem.W.mg_of X G a3,
    em_BadClause := ⟨⟨"ValueError", "ValueError.__new__", "ValueError.__init__", [.type "ValueError", .type "Exception", .type "BaseException", .type "object"], PySem.F.excBase_ValueError, PySem.F.store_ValueError, e3, o3⟩, sa3, no3, hd3, kC3, ex3, ty3, iC3, tI3⟩,
    ex_BadClause := ⟨ga3, gt3, ex3, hd3, ha3, hn, ht, hm3⟩,
    F_BadClause := F3,
    b_BadClause := F3.binds fun _ _ _ _ _ _ us hl => match us, hl with | [_, _], _ => rfl,
    k_BadClause := fun _ _ _ => .of_eq rfl,
    m_BadBook := PySem.W.mg_of X G a4,
    em_BadBook := ⟨⟨"ValueError", "ValueError.__new__", "ValueError.__init__", [.type "ValueError", .type "Exception", .type "BaseException", .type "object"], PySem.F.excBase_ValueError, PySem.F.store_ValueError, e4, o4⟩, sa4, no4, hd4, kC4, ex4, ty4, iC4, tI4⟩,
    ex_BadBook := ⟨ga4, gt4, ex4, hd4, ha4, hn, ht, hm4⟩,
    F_BadBook := F4,
    b_BadBook := F4.binds fun _ _ _ _ _ _ us hl => match us, hl with | [_, _], _ => rfl,
    k_BadBook := fun _ _ _ => .of_eq rfl,
    m_BadRow := PySem.W.mg_of X G a5,
    em_BadRow := ⟨⟨"ValueError", "ValueError.__new__", "ValueError.__init__", [.type "ValueError", .type "Exception", .type "BaseException", .type "object"], PySem.F.excBase_ValueError, PySem.F.store_ValueError, e5, o5⟩, sa5, no5, hd5, kC5, ex5, ty5, iC5, tI5⟩,
    ex_BadRow := ⟨ga5, gt5, ex5, hd5, ha5, hn, ht, hm5⟩,
    F_BadRow := F5,
    b_BadRow := F5.binds fun _ _ _ _ _ _ us hl => match us, hl with | [_, _], _ => rfl,
    k_BadRow := fun _ _ _ => .of_eq rfl,
    m_BadWish := PySem.W.mg_of X G a6,
    em_BadWish := ⟨⟨"ValueError", "ValueError.__new__", "ValueError.__init__", [.type "ValueError", .type "Exception", .type "BaseException", .type "object"], PySem.F.excBase_ValueError, PySem.F.store_ValueError, e6, o6⟩, sa6, no6, hd6, kC6, ex6, ty6, iC6, tI6⟩,
    ex_BadWish := ⟨ga6, gt6, ex6, hd6, ha6, hn, ht, hm6⟩,
    F_BadWish := F6,
    b_BadWish := F6.binds fun _ _ _ _ _ _ us hl => match us, hl with | [_, _], _ => rfl,
    k_BadWish := fun _ _ _ => .of_eq rfl,
    m_BadNumber := PySem.W.mg_of X G a7,
    em_BadNumber := ⟨⟨"ValueError", "ValueError.__new__", "ValueError.__init__", [.type "ValueError", .type "Exception", .type "BaseException", .type "object"], PySem.F.excBase_ValueError, PySem.F.store_ValueError, e7, o7⟩, sa7, no7, hd7, kC7, ex7, ty7, iC7, tI7⟩,
    ex_BadNumber := ⟨ga7, gt7, ex7, hd7, ha7, hn, ht, hm7⟩,
    F_BadNumber := F7,
    b_BadNumber := F7.binds fun _ _ _ _ _ _ us hl => match us, hl with | [_, _], _ => rfl,
    k_BadNumber := fun _ _ _ => .of_eq rfl,
    m_BadPaper := PySem.W.mg_of X G a8,
    em_BadPaper := ⟨⟨"ValueError", "ValueError.__new__", "ValueError.__init__", [.type "ValueError", .type "Exception", .type "BaseException", .type "object"], PySem.F.excBase_ValueError, PySem.F.store_ValueError, e8, o8⟩, sa8, no8, hd8, kC8, ex8, ty8, iC8, tI8⟩,
    ex_BadPaper := ⟨ga8, gt8, ex8, hd8, ha8, hn, ht, hm8⟩,
    F_BadPaper := F8,
    b_BadPaper := F8.binds fun _ _ _ _ _ _ us hl => match us, hl with | [_, _], _ => rfl,
    k_BadPaper := fun _ _ _ => .of_eq rfl,
    m_BadText := PySem.W.mg_of X G a9,
    em_BadText := ⟨⟨"ValueError", "ValueError.__new__", "ValueError.__init__", [.type "ValueError", .type "Exception", .type "BaseException", .type "object"], PySem.F.excBase_ValueError, PySem.F.store_ValueError, e9, o9⟩, sa9, no9, hd9, kC9, ex9, ty9, iC9, tI9⟩,
    ex_BadText := ⟨ga9, gt9, ex9, hd9, ha9, hn, ht, hm9⟩,
    F_BadText := F9,
    b_BadText := F9.binds fun _ _ _ _ _ _ us hl => match us, hl with | [_, _], _ => rfl,
    k_BadText := fun _ _ _ => .of_eq rfl,
    m_TooMany := PySem.W.mg_of X G a10,
    em_TooMany := ⟨⟨"OverflowError", "OverflowError.__new__", "OverflowError.__init__", [.type "OverflowError", .type "ArithmeticError", .type "Exception", .type "BaseException", .type "object"], PySem.F.excBase_OverflowError, PySem.F.store_OverflowError, e10, o10⟩, sa10, no10, hd10, kC10, ex10, ty10, iC10, tI10⟩,
    ex_TooMany := ⟨ga10, gt10, ex10, hd10, ha10, hn, ht, hm10⟩,
    F_TooMany := F10,
    b_TooMany := F10.binds fun _ _ _ _ _ _ us hl => match us, hl with | [_, _], _ => rfl,
    k_TooMany := fun _ _ _ => .of_eq rfl,
    m__law_begun := PySem.W.mg_of X G a11,
    F__law_begun := F11,
    b__law_begun := F11.binds fun _ _ _ _ _ _ us hl => match us, hl with | [_], _ => rfl,
    m__law_next := PySem.W.mg_of X G a12,
    F__law_next := F12,
    b__law_next := F12.binds fun _ _ _ _ _ _ us hl => match us, hl with | [_, _], _ => rfl,
    m__law_value := PySem.W.mg_of X G a13,
    F__law_value := F13,
    b__law_value := F13.binds fun _ _ _ _ _ _ us hl => match us, hl with | [_], _ => rfl,
    m__law_kinds := PySem.W.mg_of X G a14,
    F__law_kinds := F14,
    b__law_kinds := F14.binds fun _ _ _ _ _ _ us hl => match us, hl with | [_], _ => rfl,
    m__law_field := PySem.W.mg_of X G a15,
    F__law_field := F15,
    b__law_field := F15.binds fun _ _ _ _ _ _ us hl => match us, hl with | [_], _ => rfl,
    m_law := PySem.W.mg_of X G a16,
    F_law := F16,
    b_law := F16.binds fun _ _ _ _ _ _ us hl => match us, hl with | [_], _ => rfl }
  have X9 : Kit K A := ⟨x1_1, x1_2, x1_3, x1_4, x1_5, x1_6, x1_7, x1_8, x1_9, x1_10, x1_0, x1_v, x1_l, x1_o, x2_1, x2_2, x2_3, x2_4, x2_5, x2_6, x2_7, x2_8, x2_9, x2_10, x2_0, x2_v, x2_l, x2_o, x3_1, x3_2, x3_3, x3_4, x3_5, x3_6, x3_7, x3_8, x3_9, x3_10, x3_0, x3_v, x3_l, x3_o, x4_1, x4_2, x4_3, x4_4, x4_5, x4_6, x4_7, x4_8, x4_9, x4_10, x4_0, x4_v, x4_l, x4_o, x5_1, x5_2, x5_3, x5_4, x5_5, x5_6, x5_7, x5_8, x5_9, x5_10, x5_0, x5_v, x5_l, x5_o, x6_1, x6_2, x6_3, x6_4, x6_5, x6_6, x6_7, x6_8, x6_9, x6_10, x6_0, x6_v, x6_l, x6_o, x7_1, x7_2, x7_3, x7_4, x7_5, x7_6, x7_7, x7_8, x7_9, x7_10, x7_0, x7_v, x7_l, x7_o, x8_1, x8_2, x8_3, x8_4, x8_5, x8_6, x8_7, x8_8, x8_9, x8_10, x8_0, x8_v, x8_l, x8_o, x9_1, x9_2, x9_3, x9_4, x9_5, x9_6, x9_7, x9_8, x9_9, x9_10, x9_0, x9_v, x9_l, x9_o, x10_1, x10_2, x10_3, x10_4, x10_5, x10_6, x10_7, x10_8, x10_9, x10_10, x10_0, x10_v, x10_l, x10_o⟩
  exact ⟨(PySem.W.fnOf "law" "law" (defArgs s_law) (defBody s_law) (defScope s_law) .none kV16 do16 pm16 an16 cd16 ct16), fun s v => .of_eq rfl, fun base _ _ => G_law T (law_true X9)⟩
end DE.L70
open PySem PySem.W PyProof.Rows in
set_option maxRecDepth 100000 in
set_option maxHeartbeats 0 in
theorem PySem.Challenge.cw_whomaysign_k70_errors_holds : PySem.Challenge.rw_whomaysign_k70_errors.Holds := by
  w_on; o_law; k_head; (case hw => w_witness2)
  k_fill
  refine DE.walk_law (n := 63) (k := 4) (x := "script") (l := PySem.Challenge.rw_whomaysign_k70_errors) rfl (by decide) rfl ⟨rfl, by decide, by decide⟩ (fun w h Y => PySem.W.kIn_of Y) ?F
  case F =>
    intro w mg fa h KX G hmg
    refine' DE.L70.all_mk KX G hmg ?a0 ?a1 ?iC1 ?tI1 ?l1 ?q1 ?k1 ?e1 ?o1 ?sa1 ?no1 ?hd1 ?kC1 ?ex1 ?ty1 ?ga1 ?gt1 ?ha1 ?hm1 ?a2 ?iC2 ?tI2 ?l2 ?q2 ?k2 ?e2 ?o2 ?sa2 ?no2 ?hd2 ?kC2 ?ex2 ?ty2 ?ga2 ?gt2 ?ha2 ?hm2 ?a3 ?iC3 ?tI3 ?l3 ?q3 ?k3 ?e3 ?o3 ?sa3 ?no3 ?hd3 ?kC3 ?ex3 ?ty3 ?ga3 ?gt3 ?ha3 ?hm3 ?a4 ?iC4 ?tI4 ?l4 ?q4 ?k4 ?e4 ?o4 ?sa4 ?no4 ?hd4 ?kC4 ?ex4 ?ty4 ?ga4 ?gt4 ?ha4 ?hm4 ?a5 ?iC5 ?tI5 ?l5 ?q5 ?k5 ?e5 ?o5 ?sa5 ?no5 ?hd5 ?kC5 ?ex5 ?ty5 ?ga5 ?gt5 ?ha5 ?hm5 ?a6 ?iC6 ?tI6 ?l6 ?q6 ?k6 ?e6 ?o6 ?sa6 ?no6 ?hd6 ?kC6 ?ex6 ?ty6 ?ga6 ?gt6 ?ha6 ?hm6 ?a7 ?iC7 ?tI7 ?l7 ?q7 ?k7 ?e7 ?o7 ?sa7 ?no7 ?hd7 ?kC7 ?ex7 ?ty7 ?ga7 ?gt7 ?ha7 ?hm7 ?a8 ?iC8 ?tI8 ?l8 ?q8 ?k8 ?e8 ?o8 ?sa8 ?no8 ?hd8 ?kC8 ?ex8 ?ty8 ?ga8 ?gt8 ?ha8 ?hm8 ?a9 ?iC9 ?tI9 ?l9 ?q9 ?k9 ?e9 ?o9 ?sa9 ?no9 ?hd9 ?kC9 ?ex9 ?ty9 ?ga9 ?gt9 ?ha9 ?hm9 ?a10 ?iC10 ?tI10 ?l10 ?q10 ?k10 ?e10 ?o10 ?sa10 ?no10 ?hd10 ?kC10 ?ex10 ?ty10 ?ga10 ?gt10 ?ha10 ?hm10 ?hn ?ht ?x1_1 ?x1_2 ?x1_3 ?x1_4 ?x1_5 ?x1_6 ?x1_7 ?x1_8 ?x1_9 ?x1_10 ?x1_0 ?x1_v ?x1_l ?x1_o ?x2_1 ?x2_2 ?x2_3 ?x2_4 ?x2_5 ?x2_6 ?x2_7 ?x2_8 ?x2_9 ?x2_10 ?x2_0 ?x2_v ?x2_l ?x2_o ?x3_1 ?x3_2 ?x3_3 ?x3_4 ?x3_5 ?x3_6 ?x3_7 ?x3_8 ?x3_9 ?x3_10 ?x3_0 ?x3_v ?x3_l ?x3_o ?x4_1 ?x4_2 ?x4_3 ?x4_4 ?x4_5 ?x4_6 ?x4_7 ?x4_8 ?x4_9 ?x4_10 ?x4_0 ?x4_v ?x4_l ?x4_o ?x5_1 ?x5_2 ?x5_3 ?x5_4 ?x5_5 ?x5_6 ?x5_7 ?x5_8 ?x5_9 ?x5_10 ?x5_0 ?x5_v ?x5_l ?x5_o ?x6_1 ?x6_2 ?x6_3 ?x6_4 ?x6_5 ?x6_6 ?x6_7 ?x6_8 ?x6_9 ?x6_10 ?x6_0 ?x6_v ?x6_l ?x6_o ?x7_1 ?x7_2 ?x7_3 ?x7_4 ?x7_5 ?x7_6 ?x7_7 ?x7_8 ?x7_9 ?x7_10 ?x7_0 ?x7_v ?x7_l ?x7_o ?x8_1 ?x8_2 ?x8_3 ?x8_4 ?x8_5 ?x8_6 ?x8_7 ?x8_8 ?x8_9 ?x8_10 ?x8_0 ?x8_v ?x8_l ?x8_o ?x9_1 ?x9_2 ?x9_3 ?x9_4 ?x9_5 ?x9_6 ?x9_7 ?x9_8 ?x9_9 ?x9_10 ?x9_0 ?x9_v ?x9_l ?x9_o ?x10_1 ?x10_2 ?x10_3 ?x10_4 ?x10_5 ?x10_6 ?x10_7 ?x10_8 ?x10_9 ?x10_10 ?x10_0 ?x10_v ?x10_l ?x10_o ?a11 ?l11 ?q11 ?k11 ?a12 ?l12 ?q12 ?k12 ?a13 ?l13 ?q13 ?k13 ?a14 ?l14 ?q14 ?k14 ?a15 ?l15 ?q15 ?k15 ?a16 ?l16 ?q16 ?k16 ?n_LookupError ?n_OverflowError ?n_ValueError ?n_enumerate ?n_int ?n_isinstance ?n_len ?n_list ?n_min ?n_range ?n_repr
    (case a0 => k_is)
    (case a1 => k_is)
    (case iC1 => k_is)
    (case tI1 => k_is)
    (case l1 => k_is)
    (case q1 => k_is)
    (case k1 => k_is)
    (case e1 => kx_is)
    (case o1 => kx_is)
    (case sa1 => k_is)
    (case no1 => k_is)
    (case hd1 => k_is)
    (case kC1 => k_is)
    (case ex1 => k_is)
    (case ty1 => k_is)
    (case ga1 => k_is)
    (case gt1 => k_is)
    (case ha1 => k_is)
    (case hm1 => k_is)
    (case a2 => k_is)
    (case iC2 => k_is)
    (case tI2 => k_is)
    (case l2 => k_is)
    (case q2 => k_is)
    (case k2 => k_is)
    (case e2 => kx_is)
    (case o2 => kx_is)
    (case sa2 => k_is)
    (case no2 => k_is)
    (case hd2 => k_is)
    (case kC2 => k_is)
    (case ex2 => k_is)
    (case ty2 => k_is)
    (case ga2 => k_is)
    (case gt2 => k_is)
    (case ha2 => k_is)
    (case hm2 => k_is)
    (case a3 => k_is)
    (case iC3 => k_is)
    (case tI3 => k_is)
    (case l3 => k_is)
    (case q3 => k_is)
    (case k3 => k_is)
    (case e3 => kx_is)
    (case o3 => kx_is)
    (case sa3 => k_is)
    (case no3 => k_is)
    (case hd3 => k_is)
    (case kC3 => k_is)
    (case ex3 => k_is)
    (case ty3 => k_is)
    (case ga3 => k_is)
    (case gt3 => k_is)
    (case ha3 => k_is)
    (case hm3 => k_is)
    (case a4 => k_is)
    (case iC4 => k_is)
    (case tI4 => k_is)
    (case l4 => k_is)
    (case q4 => k_is)
    (case k4 => k_is)
    (case e4 => kx_is)
    (case o4 => kx_is)
    (case sa4 => k_is)
    (case no4 => k_is)
    (case hd4 => k_is)
    (case kC4 => k_is)
    (case ex4 => k_is)
    (case ty4 => k_is)
    (case ga4 => k_is)
    (case gt4 => k_is)
    (case ha4 => k_is)
    (case hm4 => k_is)
    (case a5 => k_is)
    (case iC5 => k_is)
    (case tI5 => k_is)
    (case l5 => k_is)
    (case q5 => k_is)
    (case k5 => k_is)
    (case e5 => kx_is)
    (case o5 => kx_is)
    (case sa5 => k_is)
    (case no5 => k_is)
    (case hd5 => k_is)
    (case kC5 => k_is)
    (case ex5 => k_is)
    (case ty5 => k_is)
    (case ga5 => k_is)
    (case gt5 => k_is)
    (case ha5 => k_is)
    (case hm5 => k_is)
    (case a6 => k_is)
    (case iC6 => k_is)
    (case tI6 => k_is)
    (case l6 => k_is)
    (case q6 => k_is)
    (case k6 => k_is)
    (case e6 => kx_is)
    (case o6 => kx_is)
    (case sa6 => k_is)
    (case no6 => k_is)
    (case hd6 => k_is)
    (case kC6 => k_is)
    (case ex6 => k_is)
    (case ty6 => k_is)
    (case ga6 => k_is)
    (case gt6 => k_is)
    (case ha6 => k_is)
    (case hm6 => k_is)
    (case a7 => k_is)
    (case iC7 => k_is)
    (case tI7 => k_is)
    (case l7 => k_is)
    (case q7 => k_is)
    (case k7 => k_is)
    (case e7 => kx_is)
    (case o7 => kx_is)
    (case sa7 => k_is)
    (case no7 => k_is)
    (case hd7 => k_is)
    (case kC7 => k_is)
    (case ex7 => k_is)
    (case ty7 => k_is)
    (case ga7 => k_is)
    (case gt7 => k_is)
    (case ha7 => k_is)
    (case hm7 => k_is)
    (case a8 => k_is)
    (case iC8 => k_is)
    (case tI8 => k_is)
    (case l8 => k_is)
    (case q8 => k_is)
    (case k8 => k_is)
    (case e8 => kx_is)
    (case o8 => kx_is)
    (case sa8 => k_is)
    (case no8 => k_is)
    (case hd8 => k_is)
    (case kC8 => k_is)
    (case ex8 => k_is)
    (case ty8 => k_is)
    (case ga8 => k_is)
    (case gt8 => k_is)
    (case ha8 => k_is)
    (case hm8 => k_is)
    (case a9 => k_is)
    (case iC9 => k_is)
    (case tI9 => k_is)
    (case l9 => k_is)
    (case q9 => k_is)
    (case k9 => k_is)
    (case e9 => kx_is)
    (case o9 => kx_is)
    (case sa9 => k_is)
    (case no9 => k_is)
    (case hd9 => k_is)
    (case kC9 => k_is)
    (case ex9 => k_is)
    (case ty9 => k_is)
    (case ga9 => k_is)
    (case gt9 => k_is)
    (case ha9 => k_is)
    (case hm9 => k_is)
    (case a10 => k_is)
    (case iC10 => k_is)
    (case tI10 => k_is)
    (case l10 => k_is)
    (case q10 => k_is)
    (case k10 => k_is)
    (case e10 => kx_is)
    (case o10 => kx_is)
    (case sa10 => k_is)
    (case no10 => k_is)
    (case hd10 => k_is)
    (case kC10 => k_is)
    (case ex10 => k_is)
    (case ty10 => k_is)
    (case ga10 => k_is)
    (case gt10 => k_is)
    (case ha10 => k_is)
    (case hm10 => k_is)
    (case hn => k_is)
    (case ht => k_is)
    (case x1_1 => kit_is)
    (case x1_2 => kit_is)
    (case x1_3 => kit_is)
    (case x1_4 => kit_is)
    (case x1_5 => kit_is)
    (case x1_6 => kit_is)
    (case x1_7 => kit_is)
    (case x1_8 => kit_is)
    (case x1_9 => kit_is)
    (case x1_10 => kit_is)
    (case x1_0 => kit_is)
    (case x1_v => kit_is)
    (case x1_l => kit_is)
    (case x1_o => kit_is)
    (case x2_1 => kit_is)
    (case x2_2 => kit_is)
    (case x2_3 => kit_is)
    (case x2_4 => kit_is)
    (case x2_5 => kit_is)
    (case x2_6 => kit_is)
    (case x2_7 => kit_is)
    (case x2_8 => kit_is)
    (case x2_9 => kit_is)
    (case x2_10 => kit_is)
    (case x2_0 => kit_is)
    (case x2_v => kit_is)
    (case x2_l => kit_is)
    (case x2_o => kit_is)
    (case x3_1 => kit_is)
    (case x3_2 => kit_is)
    (case x3_3 => kit_is)
    (case x3_4 => kit_is)
    (case x3_5 => kit_is)
    (case x3_6 => kit_is)
    (case x3_7 => kit_is)
    (case x3_8 => kit_is)
    (case x3_9 => kit_is)
    (case x3_10 => kit_is)
    (case x3_0 => kit_is)
    (case x3_v => kit_is)
    (case x3_l => kit_is)
    (case x3_o => kit_is)
    (case x4_1 => kit_is)
    (case x4_2 => kit_is)
    (case x4_3 => kit_is)
    (case x4_4 => kit_is)
    (case x4_5 => kit_is)
    (case x4_6 => kit_is)
    (case x4_7 => kit_is)
    (case x4_8 => kit_is)
    (case x4_9 => kit_is)
    (case x4_10 => kit_is)
    (case x4_0 => kit_is)
    (case x4_v => kit_is)
    (case x4_l => kit_is)
    (case x4_o => kit_is)
    (case x5_1 => kit_is)
    (case x5_2 => kit_is)
    (case x5_3 => kit_is)
    (case x5_4 => kit_is)
    (case x5_5 => kit_is)
    (case x5_6 => kit_is)
    (case x5_7 => kit_is)
    (case x5_8 => kit_is)
    (case x5_9 => kit_is)
    (case x5_10 => kit_is)
    (case x5_0 => kit_is)
    (case x5_v => kit_is)
    (case x5_l => kit_is)
    (case x5_o => kit_is)
    (case x6_1 => kit_is)
    (case x6_2 => kit_is)
    (case x6_3 => kit_is)
    (case x6_4 => kit_is)
    (case x6_5 => kit_is)
    (case x6_6 => kit_is)
    (case x6_7 => kit_is)
    (case x6_8 => kit_is)
    (case x6_9 => kit_is)
    (case x6_10 => kit_is)
    (case x6_0 => kit_is)
    (case x6_v => kit_is)
    (case x6_l => kit_is)
    (case x6_o => kit_is)
    (case x7_1 => kit_is)
    (case x7_2 => kit_is)
    (case x7_3 => kit_is)
    (case x7_4 => kit_is)
    (case x7_5 => kit_is)
    (case x7_6 => kit_is)
    (case x7_7 => kit_is)
    (case x7_8 => kit_is)
    (case x7_9 => kit_is)
    (case x7_10 => kit_is)
    (case x7_0 => kit_is)
    (case x7_v => kit_is)
    (case x7_l => kit_is)
    (case x7_o => kit_is)
    (case x8_1 => kit_is)
    (case x8_2 => kit_is)
    (case x8_3 => kit_is)
    (case x8_4 => kit_is)
    (case x8_5 => kit_is)
    (case x8_6 => kit_is)
    (case x8_7 => kit_is)
    (case x8_8 => kit_is)
    (case x8_9 => kit_is)
    (case x8_10 => kit_is)
    (case x8_0 => kit_is)
    (case x8_v => kit_is)
    (case x8_l => kit_is)
    (case x8_o => kit_is)
    (case x9_1 => kit_is)
    (case x9_2 => kit_is)
    (case x9_3 => kit_is)
    (case x9_4 => kit_is)
    (case x9_5 => kit_is)
    (case x9_6 => kit_is)
    (case x9_7 => kit_is)
    (case x9_8 => kit_is)
    (case x9_9 => kit_is)
    (case x9_10 => kit_is)
    (case x9_0 => kit_is)
    (case x9_v => kit_is)
    (case x9_l => kit_is)
    (case x9_o => kit_is)
    (case x10_1 => kit_is)
    (case x10_2 => kit_is)
    (case x10_3 => kit_is)
    (case x10_4 => kit_is)
    (case x10_5 => kit_is)
    (case x10_6 => kit_is)
    (case x10_7 => kit_is)
    (case x10_8 => kit_is)
    (case x10_9 => kit_is)
    (case x10_10 => kit_is)
    (case x10_0 => kit_is)
    (case x10_v => kit_is)
    (case x10_l => kit_is)
    (case x10_o => kit_is)
    (case a11 => k_is)
    (case l11 => k_is)
    (case q11 => k_is)
    (case k11 => k_is)
    (case a12 => k_is)
    (case l12 => k_is)
    (case q12 => k_is)
    (case k12 => k_is)
    (case a13 => k_is)
    (case l13 => k_is)
    (case q13 => k_is)
    (case k13 => k_is)
    (case a14 => k_is)
    (case l14 => k_is)
    (case q14 => k_is)
    (case k14 => k_is)
    (case a15 => k_is)
    (case l15 => k_is)
    (case q15 => k_is)
    (case k15 => k_is)
    (case a16 => k_is)
    (case l16 => k_is)
    (case q16 => k_is)
    (case k16 => k_is)
    (case n_LookupError => k_is)
    (case n_OverflowError => k_is)
    (case n_ValueError => k_is)
    (case n_enumerate => k_is)
    (case n_int => k_is)
    (case n_isinstance => k_is)
    (case n_len => k_is)
    (case n_list => k_is)
    (case n_min => k_is)
    (case n_range => k_is)
    (case n_repr => k_is)
#print axioms PySem.Challenge.cw_whomaysign_k70_errors_holds

