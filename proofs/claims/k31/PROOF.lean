import PyProof.Rows.All
import Wide.All
import OpenK.AllK
import Wide.FinOn
import HandS.Base
import HandS.Call
import HandS.List
import HandS.Comp
import HandS.Ends
import HandS.Exc
import HandS.ExcOwn
import HandS.TryOnly
import HandS.ExcIs
import HandS.IsInst
import HandS.FStr
import HandS.RaiseMore
import HandS.Words
import HandS.WordsList
import HandS.WordsExc
import HandS.WideBits
import HandS.Iter
import HandS.Text
import HandS.Evl
import HandS.Head0
import HandS.Head1
import HandS.Head2
import HandS.HeadEnd
import HandS.HeadHook1
import HandS.HeadHook2
import HandS.HeadHook4
import HandS.EndBits
import HandS.Style
import KE.KSuper
import HandS.More
import HandS.Head3
import Wide.Once
import HandS.TryMany
import HandS.Rev
import HandS.RevTup
import PyProof.ListNew
import HandS.Defaults
import HandS.CallSlots
import HandS.MakeKwOnly
import KE.DatumOrd
import HandS.Conv
import HandS.Dict
import KE.KMathG
import HandS.Struct
import HandS.Zip
import KE.GoesMore
import KE.GoesRaise
import HandS.TupMul
import PySem.Challenge.RW_curveseal_k31_trees_and_pairs
set_option Elab.async false
set_option linter.all false
set_option maxRecDepth 100000
set_option autoImplicit false
set_option maxHeartbeats 4000000
set_option maxHeartbeats 1000000
namespace Mi
open PySem PySem.Spec L2
open Evl (Ex)

/-! ### data -/
inductive D where
  | non | bl (b : Bool) | int (i : Int) | str (s : Str) | ty (n : String)
  | tup (xs : List D) | lst (xs : List D) | obj (c : Str) (ks : List Str) (ds : List D) | ro (xs : List D) | dct (ks : List Str) (ds : List D)

class ToD (α : Type) where
  d : α → D
abbrev toD {α : Type} [ToD α] (x : α) : D := ToD.d x
instance : ToD D := ⟨fun x => x⟩
instance : ToD Int := ⟨D.int⟩
instance : ToD Bool := ⟨D.bl⟩
instance : ToD Unit := ⟨fun _ => .non⟩
instance : ToD Str := ⟨D.str⟩
instance {α : Type} [ToD α] : ToD (List α) := ⟨fun xs => .lst (xs.map ToD.d)⟩
instance {α : Type} [ToD α] : ToD (Option α) := ⟨fun o => match o with | none => .non | some x => ToD.d x⟩
structure T1 (α : Type) where
  a : α
structure T2 (α β : Type) where
  a : α
  b : β
structure T3 (α β γ : Type) where
  a : α
  b : β
  c : γ
structure T4 (α β γ δ : Type) where
  a : α
  b : β
  c : γ
  e : δ
structure Ro (α : Type) where
  xs : List α
structure Tu (α : Type) where
  xs : List α
instance {α : Type} [ToD α] : ToD (T1 α) := ⟨fun x => .tup [ToD.d x.a]⟩
instance {α β : Type} [ToD α] [ToD β] : ToD (T2 α β) := ⟨fun x => .tup [ToD.d x.a, ToD.d x.b]⟩
instance {α β γ : Type} [ToD α] [ToD β] [ToD γ] : ToD (T3 α β γ) := ⟨fun x => .tup [ToD.d x.a, ToD.d x.b, ToD.d x.c]⟩
instance {α β γ δ : Type} [ToD α] [ToD β] [ToD γ] [ToD δ] : ToD (T4 α β γ δ) := ⟨fun x => .tup [ToD.d x.a, ToD.d x.b, ToD.d x.c, ToD.d x.e]⟩
instance {α : Type} [ToD α] : ToD (Ro α) := ⟨fun x => .ro (x.xs.map ToD.d)⟩
instance {α : Type} [ToD α] : ToD (Tu α) := ⟨fun x => .tup (x.xs.map ToD.d)⟩

mutual
def Rep (K : PySem.W.Frag) (F : Hp) : D → V → Prop
  | .non, v => v = .non
  | .bl b, v => v = .bl b
  | .int i, v => v = .int i
  | .str s, v => v = .str s
  | .ty n, v => v = .ty n
  | .tup ds, v => ∃ a vs, v = .ref a ∧ SqT K F a vs ∧ Reps K F ds vs
  | .lst ds, v => ∃ a vs, v = .ref a ∧ F a = some (.lst vs) ∧ Reps K F ds vs
  | .obj c ks ds, v => ∃ a dx vs, v = .ref a ∧ F a = some (.ins (He.ga K c) dx (ks.zip vs)) ∧ ks.length = vs.length ∧ Reps K F ds vs
  | .ro ds, v => ∃ a vs, v = .ref a ∧ SqL K F a vs ∧ Reps K F ds vs
  | .dct ks ds, v => ∃ a vs, v = .ref a ∧ F a = some (.dK ((ks.map Sum.inr).zip vs)) ∧ ks.length = vs.length ∧ Reps K F ds vs ∧ ks.Nodup
def Reps (K : PySem.W.Frag) (F : Hp) : List D → List V → Prop
  | [], vs => vs = []
  | d :: ds, vs => ∃ v r, vs = v :: r ∧ Rep K F d v ∧ Reps K F ds r
end

theorem sq_ex {K : PySem.W.Frag} {F H : Hp} {a : Addr} {xs : List V} (e : Ex F H) (h : F a = some (.lst xs)) : SqL K H a xs := Or.inl (Or.inl (e _ _ h))
mutual
theorem Rep.mono {K : PySem.W.Frag} {F F' : Hp} (e : Ex F F') : ∀ (d : D) (v : V), Rep K F d v → Rep K F' d v
  | .non, v, h => h
  | .bl b, v, h => h
  | .int i, v, h => h
  | .str s, v, h => h
  | .ty n, v, h => h
  | .tup ds, v, h => by
    obtain ⟨a, vs, h1, h2, h3⟩ := h
    exact ⟨a, vs, h1, Evl.ex_t e h2, Reps.mono e ds vs h3⟩
  | .lst ds, v, h => by
    obtain ⟨a, vs, h1, h2, h3⟩ := h
    exact ⟨a, vs, h1, e _ _ h2, Reps.mono e ds vs h3⟩
  | .obj c ks ds, v, h => by
    obtain ⟨a, dx, vs, h1, h2, h3, h4⟩ := h
    exact ⟨a, dx, vs, h1, e _ _ h2, h3, Reps.mono e ds vs h4⟩
  | .ro ds, v, h => by
    obtain ⟨a, vs, h1, h2, h3⟩ := h
    exact ⟨a, vs, h1, Evl.ex_l e h2, Reps.mono e ds vs h3⟩
  | .dct ks ds, v, h => by
    obtain ⟨a, vs, h1, h2, h3, h4, h5⟩ := h
    exact ⟨a, vs, h1, e _ _ h2, h3, Reps.mono e ds vs h4, h5⟩
theorem Reps.mono {K : PySem.W.Frag} {F F' : Hp} (e : Ex F F') : ∀ (ds : List D) (vs : List V), Reps K F ds vs → Reps K F' ds vs
  | [], vs, h => h
  | d :: ds, vs, h => by
    obtain ⟨v, r, h1, h2, h3⟩ := h
    exact ⟨v, r, h1, Rep.mono e d v h2, Reps.mono e ds r h3⟩
end
section
variable {K : PySem.W.Frag} {F F' H H' H1 : Hp}
theorem Reps.length : ∀ {ds : List D} {vs : List V}, Reps K F ds vs → ds.length = vs.length
  | [], vs, h => by rw [show vs = [] from h]; rfl
  | d :: ds, vs, h => by
    obtain ⟨v, r, rfl, _, h3⟩ := h
    simp [Reps.length h3]
theorem Reps.get : ∀ {ds : List D} {vs : List V} {i : Nat} {e : D}, Reps K F ds vs → ds[i]? = some e → ∃ v, vs[i]? = some v ∧ Rep K F e v
  | [], vs, i, e, h, q => by simp at q
  | d :: ds, vs, 0, e, h, q => by
    obtain ⟨v, r, rfl, h2, h3⟩ := h
    simp at q; subst q
    exact ⟨v, rfl, h2⟩
  | d :: ds, vs, i + 1, e, h, q => by
    obtain ⟨v, r, rfl, h2, h3⟩ := h
    simp at q
    obtain ⟨w, a, b⟩ := Reps.get h3 q
    exact ⟨w, by simpa using a, b⟩
theorem Reps.append : ∀ {ds es : List D} {vs ws : List V}, Reps K F ds vs → Reps K F es ws → Reps K F (ds ++ es) (vs ++ ws)
  | [], es, vs, ws, h, q => by rw [show vs = [] from h]; exact q
  | d :: ds, es, vs, ws, h, q => by
    obtain ⟨v, r, rfl, h2, h3⟩ := h
    exact ⟨v, r ++ ws, rfl, h2, Reps.append h3 q⟩
theorem Reps.one {e : D} {v : V} (h : Rep K F e v) : Reps K F [e] [v] := ⟨v, [], rfl, h, rfl⟩
theorem Reps.set : ∀ {ds : List D} {vs : List V} (i : Nat) {e : D} {v : V}, Reps K F ds vs → Rep K F e v → Reps K F (ds.set i e) (vs.set i v)
  | [], vs, i, e, v, h, q => by rw [show vs = [] from h]; exact rfl
  | d :: ds, vs, 0, e, v, h, q => by
    obtain ⟨w, r, rfl, h2, h3⟩ := h
    exact ⟨v, r, rfl, q, h3⟩
  | d :: ds, vs, i + 1, e, v, h, q => by
    obtain ⟨w, r, rfl, h2, h3⟩ := h
    exact ⟨w, r.set i v, rfl, h2, Reps.set i h3 q⟩
theorem Reps.drop : ∀ {ds : List D} {vs : List V} (i : Nat), Reps K F ds vs → Reps K F (ds.drop i) (vs.drop i)
  | [], vs, i, h => by rw [show vs = [] from h]; simp [Reps]
  | d :: ds, vs, 0, h => h
  | d :: ds, vs, i + 1, h => by
    obtain ⟨w, r, rfl, h2, h3⟩ := h
    exact Reps.drop i h3
theorem Reps.take : ∀ {ds : List D} {vs : List V} (i : Nat), Reps K F ds vs → Reps K F (ds.take i) (vs.take i)
  | [], vs, i, h => by rw [show vs = [] from h]; simp [Reps]
  | d :: ds, vs, 0, h => by simp [Reps]
  | d :: ds, vs, i + 1, h => by
    obtain ⟨w, r, rfl, h2, h3⟩ := h
    exact ⟨w, r.take i, rfl, h2, Reps.take i h3⟩
theorem Reps.reverse : ∀ {ds : List D} {vs : List V}, Reps K F ds vs → Reps K F ds.reverse vs.reverse
  | [], vs, h => by rw [show vs = [] from h]; simp [Reps]
  | d :: ds, vs, h => by
    obtain ⟨w, r, rfl, h2, h3⟩ := h
    rw [List.reverse_cons, List.reverse_cons]
    exact Reps.append (Reps.reverse h3) (Reps.one h2)
theorem Reps.ints : ∀ {ns : List Int} {vs : List V}, Reps K F (ns.map D.int) vs → vs = ns.map V.int
  | [], vs, h => h
  | n :: ns, vs, h => by
    obtain ⟨w, r, rfl, h2, h3⟩ := h
    rw [show w = V.int n from h2, Reps.ints h3]; rfl
theorem Reps.of_ints : ∀ (ns : List Int), Reps K F (ns.map D.int) (ns.map V.int)
  | [] => rfl
  | n :: ns => ⟨_, _, rfl, rfl, Reps.of_ints ns⟩
theorem Reps.bls : ∀ {ns : List Bool} {vs : List V}, Reps K F (ns.map D.bl) vs → vs = ns.map V.bl
  | [], vs, h => h
  | n :: ns, vs, h => by
    obtain ⟨w, r, rfl, h2, h3⟩ := h
    rw [show w = V.bl n from h2, Reps.bls h3]; rfl
/-! ### how the heap goes on -/
structure Adv (F H F' H' : Hp) : Prop where
  f : Ex F F'
  h : Ex H H'
  in_ : Ex F' H'
  out : ∀ p, F p = none → H p ≠ none → F' p = none
theorem Adv.refl (e : Ex F H) : Adv F H F H := ⟨Ex.refl F, Ex.refl H, e, fun _ h _ => h⟩
theorem Adv.trans {F1 H1 F2 H2 F3 H3 : Hp} (a : Adv F1 H1 F2 H2) (b : Adv F2 H2 F3 H3) : Adv F1 H1 F3 H3 :=
  ⟨a.f.trans b.f, a.h.trans b.h, b.in_, fun p h1 h2 => b.out p (a.out p h1 h2) fun z => h2 (Evl.fresh_back a.h z)⟩
theorem none_of_ex (e : Ex F H) {p : Addr} (h : H p = none) : F p = none := Evl.fresh_back e h
theorem Adv.new {p : Addr} {o : HO} (e : Ex F H) (h : H p = none) : Adv F H (upd F p o) (upd H p o) := by
  refine ⟨Ex.new (none_of_ex e h), Ex.new h, fun a u q => ?_, fun q h1 h2 => ?_⟩
  · by_cases z : a = p
    · subst z; rw [upd_same] at q ⊢; exact q
    · rw [upd_ne z] at q ⊢; exact e a u q
  · have z : q ≠ p := fun z => h2 (by rw [z]; exact h)
    rw [upd_ne z]; exact h1
/-- a new object, not frozen -/
theorem Adv.newO {p : Addr} {o : HO} (e : Ex F H) (h : H p = none) : Adv F H F (upd H p o) :=
  ⟨Ex.refl F, Ex.new h, fun a u q => (Ex.new h) a u (e a u q), fun _ h1 _ => h1⟩
end

/-! ### what a def gives -/
inductive Res (α : Type) where
  | ok (x : α) | exc (c : Str) | stuck
namespace Res
def bind {α β : Type} : Res α → (α → Res β) → Res β
  | .ok x, f => f x
  | .exc c, _ => .exc c
  | .stuck, _ => .stuck
theorem bind_ok {α β : Type} (x : α) (f : α → Res β) : (Res.ok x).bind f = f x := rfl
theorem bind_pure {α : Type} (m : Res α) : m.bind Res.ok = m := by cases m <;> rfl
/-- a condition that must hold -/
@[irreducible] noncomputable def need {α : Type} (p : Prop) (m : Res α) : Res α := @ite _ p (Classical.propDecidable p) m .stuck
theorem need_pos {α : Type} {p : Prop} {m : Res α} (h : p) : need p m = m := by unfold need; exact if_pos h
theorem need_neg {α : Type} {p : Prop} {m : Res α} (h : ¬ p) : need p m = .stuck := by unfold need; exact if_neg h
def map {α β : Type} (f : α → β) (m : Res α) : Res β := m.bind fun x => .ok (f x)
end Res

/-! ### slots -/
inductive Sk where
  | im (e : D) | ow (xs : List D) | raw (v : V) | oi (p : Option Addr) (c : Str) (ks : List Str) (ds : List D)
/-- what only this frame knows -/
def Sk.own : Sk → Bool
  | .ow _ => true
  | .oi _ _ _ _ => true
  | _ => false
abbrev En := List (Option Sk)
def SkOk (K : PySem.W.Frag) (H0 F H : Hp) : Sk → V → Prop
  | .im e, v => Rep K F e v
  | .ow xs, v => ∃ p vs, v = .ref p ∧ H0 p = none ∧ F p = none ∧ H p = some (.lst vs) ∧ Reps K F xs vs
  | .raw w, v => v = w
  | .oi pp c ks ds, v => ∃ p dx vs, v = .ref p ∧ H0 p = none ∧ F p = none ∧ H p = some (.ins (He.ga K c) dx (ks.zip vs)) ∧ ks.length = vs.length ∧ Reps K F ds vs ∧ ∀ a, pp = some a → p = a
structure Sl (K : PySem.W.Frag) (F0 H0 F H : Hp) (σ : L2.St) (env : En) : Prop where
  adv : Adv F0 H0 F H
  slot : ∀ (i : Nat) (sk : Sk), env[i]? = some (some sk) → ∃ v, σ[i]? = some (some v) ∧ SkOk K H0 F H sk v
  dis : ∀ (i j : Nat) (sk sk' : Sk) (p : Addr), i ≠ j → env[i]? = some (some sk) → env[j]? = some (some sk') → sk.own = true → sk'.own = true → σ[i]? = some (some (.ref p)) → σ[j]? ≠ some (some (.ref p))
  len : σ.length = env.length
section
variable {K : PySem.W.Frag} {F0 H0 F H F' H' : Hp} {σ : L2.St} {env : En}
theorem Sl.ex (S : Sl K F0 H0 F H σ env) : Ex F H := S.adv.in_
theorem SkOk.adv {sk : Sk} {v : V} (a : Adv F H F' H') (h : SkOk K H0 F H sk v) : SkOk K H0 F' H' sk v := by
  cases sk with
  | im e => exact Rep.mono a.f _ _ h
  | ow xs =>
    obtain ⟨p, vs, e1, e2, e3, e4, e5⟩ := h
    exact ⟨p, vs, e1, e2, a.out p e3 (by rw [e4]; simp), a.h _ _ e4, Reps.mono a.f _ _ e5⟩
  | raw w => exact h
  | oi pp c ks ds =>
    obtain ⟨p, dx, vs, e1, e2, e3, e4, e5, e6, e7⟩ := h
    exact ⟨p, dx, vs, e1, e2, a.out p e3 (by rw [e4]; simp), a.h _ _ e4, e5, Reps.mono a.f _ _ e6, e7⟩
theorem SkOk.at {sk : Sk} {v : V} (ho : sk.own = true) (h : SkOk K H0 F H sk v) : ∃ p o, v = .ref p ∧ H0 p = none ∧ F p = none ∧ H p = some o := by
  cases sk with
  | im e => cases ho
  | raw w => cases ho
  | ow xs =>
    obtain ⟨p, vs, e1, e2, e3, e4, e5⟩ := h
    exact ⟨p, _, e1, e2, e3, e4⟩
  | oi pp c ks ds =>
    obtain ⟨p, dx, vs, e1, e2, e3, e4, e5, e6, e7⟩ := h
    exact ⟨p, _, e1, e2, e3, e4⟩
theorem SkOk.updH {sk : Sk} {v : V} {p : Addr} {o : HO} (hn : sk.own = true → v ≠ .ref p) (h : SkOk K H0 F H sk v) : SkOk K H0 F (upd H p o) sk v := by
  cases sk with
  | im e => exact h
  | raw w => exact h
  | ow xs =>
    obtain ⟨q, vs, e1, e2, e3, e4, e5⟩ := h
    have hne : q ≠ p := fun z => hn rfl (by rw [e1, z])
    exact ⟨q, vs, e1, e2, e3, by rw [upd_ne hne]; exact e4, e5⟩
  | oi pp c ks ds =>
    obtain ⟨q, dx, vs, e1, e2, e3, e4, e5, e6, e7⟩ := h
    have hne : q ≠ p := fun z => hn rfl (by rw [e1, z])
    exact ⟨q, dx, vs, e1, e2, e3, by rw [upd_ne hne]; exact e4, e5, e6, e7⟩
theorem SkOk.updF {sk : Sk} {v : V} {p : Addr} {o : HO} (hf : F p = none) (hn : sk.own = true → v ≠ .ref p) (h : SkOk K H0 F H sk v) : SkOk K H0 (upd F p o) H sk v := by
  have ad : Ex F (upd F p o) := Ex.new hf
  cases sk with
  | im e => exact Rep.mono ad _ _ h
  | raw w => exact h
  | ow xs =>
    obtain ⟨q, vs, e1, e2, e3, e4, e5⟩ := h
    have hne : q ≠ p := fun z => hn rfl (by rw [e1, z])
    exact ⟨q, vs, e1, e2, by rw [upd_ne hne]; exact e3, e4, Reps.mono ad _ _ e5⟩
  | oi pp c ks ds =>
    obtain ⟨q, dx, vs, e1, e2, e3, e4, e5, e6, e7⟩ := h
    have hne : q ≠ p := fun z => hn rfl (by rw [e1, z])
    exact ⟨q, dx, vs, e1, e2, by rw [upd_ne hne]; exact e3, e4, e5, Reps.mono ad _ _ e6, e7⟩
theorem Sl.step (S : Sl K F0 H0 F H σ env) (a : Adv F H F' H') : Sl K F0 H0 F' H' σ env := by
  refine ⟨S.adv.trans a, fun i sk e => ?_, S.dis, S.len⟩
  obtain ⟨v, h1, h2⟩ := S.slot i sk e
  exact ⟨v, h1, h2.adv a⟩
theorem set_get {α : Type} {l : List α} {i j : Nat} {x y : α} (h : (l.set i x)[j]? = some y) : (i = j ∧ x = y) ∨ (i ≠ j ∧ l[j]? = some y) := by
  rw [List.getElem?_set] at h
  by_cases e : i = j
  · rw [if_pos e] at h
    split at h
    · exact .inl ⟨e, Option.some.inj h⟩
    · cases h
  · rw [if_neg e] at h
    exact .inr ⟨e, h⟩
theorem set_len {α : Type} {l : List α} {i : Nat} {x y : α} (h : (l.set i x)[i]? = some y) : i < l.length := by
  have h := (List.getElem?_eq_some_iff.mp h).1
  rwa [List.length_set] at h
theorem Sl.setIm (S : Sl K F0 H0 F H σ env) {i : Nat} {e : D} {v : V} (r : Rep K F e v) : Sl K F0 H0 F H (σ.set i (some v)) (env.set i (some (.im e))) := by
  refine ⟨S.adv, fun j sk q => ?_, fun j k sk sk' p hjk e1 e2 o1 o2 h1 => ?_, by rw [List.length_set, List.length_set]; exact S.len⟩
  · rcases set_get q with ⟨rfl, z⟩ | ⟨z, q⟩
    · cases z
      refine ⟨v, ?_, r⟩
      have hi : i < env.length := set_len q
      rw [List.getElem?_set_self (by rw [S.len]; exact hi)]
    · obtain ⟨w, h1, h2⟩ := S.slot j sk q
      exact ⟨w, by rw [List.getElem?_set_ne z]; exact h1, h2⟩
  · rcases set_get e1 with ⟨_, z⟩ | ⟨z1, e1⟩
    · cases z; cases o1
    rcases set_get e2 with ⟨_, z⟩ | ⟨z2, e2⟩
    · cases z; cases o2
    rw [List.getElem?_set_ne z1] at h1
    rw [List.getElem?_set_ne z2]
    exact S.dis j k sk sk' p hjk e1 e2 o1 o2 h1
/-- a new owned object -/
theorem Sl.setOwn (S : Sl K F0 H0 F H σ env) {i : Nat} {p : Addr} {sk : Sk} (hs : SkOk K H0 F H sk (.ref p)) (hn : ∀ (j : Nat) (sk' : Sk), env[j]? = some (some sk') → sk'.own = true → σ[j]? ≠ some (some (V.ref p))) :
    Sl K F0 H0 F H (σ.set i (some (.ref p))) (env.set i (some sk)) := by
  refine ⟨S.adv, fun j sk q => ?_, fun j k sk1 sk2 p' hjk e1 e2 o1 o2 h1 => ?_, by rw [List.length_set, List.length_set]; exact S.len⟩
  · rcases set_get q with ⟨rfl, z⟩ | ⟨z, q⟩
    · cases z
      refine ⟨_, ?_, hs⟩
      have hi : i < env.length := set_len q
      rw [List.getElem?_set_self (by rw [S.len]; exact hi)]
    · obtain ⟨w, h1, h2⟩ := S.slot j sk q
      exact ⟨w, by rw [List.getElem?_set_ne z]; exact h1, h2⟩
  · rcases set_get e1 with ⟨z0, z⟩ | ⟨z1, e1⟩
    · rcases set_get e2 with ⟨z2, _⟩ | ⟨z2, e2⟩
      · exact absurd (z0.symm.trans z2) hjk
      · subst z0
        rw [List.getElem?_set_ne z2]
        have hi : i < σ.length := set_len h1
        rw [List.getElem?_set_self hi] at h1
        cases h1
        exact hn k sk2 e2 o2
    · rw [List.getElem?_set_ne z1] at h1
      rcases set_get e2 with ⟨z2, z⟩ | ⟨z2, e2⟩
      · subst z2
        intro q
        have hi : i < σ.length := set_len q
        rw [List.getElem?_set_self hi] at q
        cases q
        exact hn j sk1 e1 o1 h1
      · rw [List.getElem?_set_ne z2]
        exact S.dis j k sk1 sk2 p' hjk e1 e2 o1 o2 h1
theorem Sl.setOw (S : Sl K F0 H0 F H σ env) {i : Nat} {p : Addr} {xs : List D} {vs : List V} (h0 : H0 p = none) (hf : F p = none) (hp : H p = some (.lst vs)) (hn : ∀ (j : Nat) (sk' : Sk), env[j]? = some (some sk') → sk'.own = true → σ[j]? ≠ some (some (V.ref p))) (r : Reps K F xs vs) :
    Sl K F0 H0 F H (σ.set i (some (.ref p))) (env.set i (some (.ow xs))) := S.setOwn ⟨p, vs, rfl, h0, hf, hp, r⟩ hn
/-- an owned object changes -/
theorem Sl.chgO (S : Sl K F0 H0 F H σ env) {i : Nat} {p : Addr} {sk sk' : Sk} {o : HO} (e : env[i]? = some (some sk)) (ho : sk.own = true) (hs : σ[i]? = some (some (.ref p))) (hp : F p = none) (h0 : H0 p = none) (hk : SkOk K H0 F (upd H p o) sk' (.ref p)) :
    Sl K F0 H0 F (upd H p o) σ (env.set i (some sk')) := by
  refine ⟨⟨S.adv.f, fun a u q => ?_, fun a u q => ?_, S.adv.out⟩, fun j sk q => ?_, fun j k sk1 sk2 p' hjk e1 e2 o1 o2 h1 => ?_, by rw [List.length_set]; exact S.len⟩
  · rw [upd_ne (ne_of_none q h0)]; exact S.adv.h a u q
  · rw [upd_ne (ne_of_none q hp)]; exact S.adv.in_ a u q
  · rcases set_get q with ⟨rfl, z⟩ | ⟨z, q⟩
    · cases z
      exact ⟨_, hs, hk⟩
    · obtain ⟨w, h1, h2⟩ := S.slot j sk q
      exact ⟨w, h1, h2.updH fun o2 zz => S.dis i j _ _ p z e q ho o2 hs (by rw [h1, zz])⟩
  · have own : ∀ {j : Nat} {s : Sk}, (env.set i (some sk'))[j]? = some (some s) → s.own = true → ∃ s', env[j]? = some (some s') ∧ s'.own = true := by
      intro j s q o
      rcases set_get q with ⟨rfl, _⟩ | ⟨_, q⟩
      · exact ⟨_, e, ho⟩
      · exact ⟨_, q, o⟩
    obtain ⟨_, q1, r1⟩ := own e1 o1
    obtain ⟨_, q2, r2⟩ := own e2 o2
    exact S.dis j k _ _ p' hjk q1 q2 r1 r2 h1
theorem Sl.chg (S : Sl K F0 H0 F H σ env) {i : Nat} {p : Addr} {xs ys : List D} {ws : List V} (e : env[i]? = some (some (.ow xs))) (hs : σ[i]? = some (some (.ref p))) (hp : F p = none) (h0 : H0 p = none) (r : Reps K F ys ws) :
    Sl K F0 H0 F (upd H p (.lst ws)) σ (env.set i (some (.ow ys))) := S.chgO e rfl hs hp h0 ⟨p, ws, rfl, h0, hp, upd_same, r⟩
/-- an owned object is frozen -/
theorem Sl.freezeO (S : Sl K F0 H0 F H σ env) {i : Nat} {sk : Sk} {d : D} (e : env[i]? = some (some sk)) (ho : sk.own = true) (hd : ∀ p o, SkOk K H0 F H sk (.ref p) → H p = some o → F p = none → Rep K (upd F p o) d (.ref p)) : ∃ F', Ex F F' ∧ Sl K F0 H0 F' H σ (env.set i (some (.im d))) := by
  obtain ⟨v, hs, hk⟩ := S.slot i _ e
  obtain ⟨p, o, rfl, h0, hf, hp⟩ := hk.at ho
  have ad : Ex F (upd F p o) := Ex.new hf
  have inn : Ex (upd F p o) H := fun a u q => by
    by_cases z : a = p
    · subst z; rw [upd_same] at q; cases q; exact hp
    · rw [upd_ne z] at q; exact S.ex a u q
  refine ⟨upd F p o, ad, ⟨⟨S.adv.f.trans ad, S.adv.h, inn, fun a h1 h2 => ?_⟩, fun j sk q => ?_, fun j k sk1 sk2 p' hjk e1 e2 o1 o2 h1 => ?_, by rw [List.length_set]; exact S.len⟩⟩
  · have z : a ≠ p := fun z => h2 (by rw [z]; exact h0)
    rw [upd_ne z]; exact S.adv.out a h1 h2
  · rcases set_get q with ⟨rfl, z⟩ | ⟨z, q⟩
    · cases z
      exact ⟨_, hs, hd p o hk hp hf⟩
    · obtain ⟨w, h1, h2⟩ := S.slot j sk q
      exact ⟨w, h1, h2.updF hf fun o2 zz => S.dis i j _ _ p z e q ho o2 hs (by rw [h1, zz])⟩
  · have own : ∀ {j : Nat} {s : Sk}, (env.set i (some (.im d)))[j]? = some (some s) → s.own = true → env[j]? = some (some s) := by
      intro j s q o
      rcases set_get q with ⟨rfl, z⟩ | ⟨_, q⟩
      · cases z; cases o
      · exact q
    exact S.dis j k _ _ p' hjk (own e1 o1) (own e2 o2) o1 o2 h1
theorem Sl.freeze (S : Sl K F0 H0 F H σ env) {i : Nat} {xs : List D} (e : env[i]? = some (some (.ow xs))) : ∃ F', Ex F F' ∧ Sl K F0 H0 F' H σ (env.set i (some (.im (.lst xs)))) :=
  S.freezeO e rfl fun p o h hp hf => by
    obtain ⟨q, vs, e1, _, _, e4, e5⟩ := h
    cases e1
    rw [hp] at e4; cases e4
    exact ⟨_, vs, rfl, upd_same, Reps.mono (Ex.new hf) _ _ e5⟩
end
end Mi
set_option maxHeartbeats 1000000
namespace Mi
open PySem PySem.Spec L2
open Evl (Ex)

class ToDs (β : Type) where
  ds : β → List D
instance : ToDs Unit := ⟨fun _ => []⟩
instance {α β : Type} [ToD α] [ToDs β] : ToDs (α × β) := ⟨fun p => ToD.d p.1 :: ToDs.ds p.2⟩

/-! ### what follows a value -/
section
variable (K : PySem.W.Frag) (W : WX) (F H : Hp) (σ : L2.St)
def KE {α : Type} [ToD α] (Q : VK) : Res α → Prop
  | .ok x => ∀ v F' H', Adv F H F' H' → Rep K F' (toD x) v → Q v H'
  | .exc c => ∀ F' H', Adv F H F' H' → W (.ref (He.ga K c)) none σ H'
  | .stuck => False
def KA {β : Type} [ToDs β] (Q : List V → Hp → Prop) : Res β → Prop
  | .ok x => ∀ vs F' H', Adv F H F' H' → Reps K F' (ToDs.ds x) vs → Q vs H'
  | .exc c => ∀ F' H', Adv F H F' H' → W (.ref (He.ga K c)) none σ H'
  | .stuck => False
def KT (Q : Bool → Hp → Prop) : Res Bool → Prop
  | .ok b => ∀ F' H', Adv F H F' H' → Q b H'
  | .exc c => ∀ F' H', Adv F H F' H' → W (.ref (He.ga K c)) none σ H'
  | .stuck => False
def KN {α : Type} [ToD α] (Q : VK) : Res (List α) → Prop
  | .ok xs => ∀ p vs F' H', Adv F H F' H' → H p = none → F' p = none → H' p = some (.lst vs) → Reps K F' (xs.map toD) vs → Q (.ref p) H'
  | .exc c => ∀ F' H', Adv F H F' H' → W (.ref (He.ga K c)) none σ H'
  | .stuck => False
end
def EvX (K : PySem.W.Frag) (W : WX) (env : En) (te : TE) {α : Type} [ToD α] (m : Res α) : Prop :=
  ∀ F0 H0 F H σ Q, Sl K F0 H0 F H σ env → KE K W F H σ Q m → te σ H Q
def EvA (K : PySem.W.Frag) (W : WX) (env : En) (ta : TA) {β : Type} [ToDs β] (m : Res β) : Prop :=
  ∀ F0 H0 F H σ Q, Sl K F0 H0 F H σ env → KA K W F H σ Q m → ta σ H Q
def EvT (K : PySem.W.Frag) (W : WX) (env : En) (tt : TT) (m : Res Bool) : Prop :=
  ∀ F0 H0 F H σ Q, Sl K F0 H0 F H σ env → KT K W F H σ Q m → tt σ H Q
def EvN (K : PySem.W.Frag) (W : WX) (env : En) (te : TE) {α : Type} [ToD α] (m : Res (List α)) : Prop :=
  ∀ F0 H0 F H σ Q, Sl K F0 H0 F H σ env → KN K W F H σ Q m → te σ H Q

section
variable {K : PySem.W.Frag} {W : WX} {F H F' H' : Hp} {σ : L2.St} {env : En} {α β γ τ : Type} [ToD α] [ToD β] [ToD γ] [ToD τ] {ta tb te tc : TE} {tt tu : TT} {r : R2}

/-- from what follows a whole to what follows its first part -/
theorem KE.cut {Q : VK} {Q1 : VK} {m : Res α} {f : α → Res β} (ex : Ex F H) (h : KE K W F H σ Q (m.bind f))
    (k : ∀ x v F' H', m = .ok x → Adv F H F' H' → Rep K F' (toD x) v → KE K W F' H' σ Q (f x) → Q1 v H') : KE K W F H σ Q1 m := by
  cases m with
  | ok x =>
    intro v F1 H1 a r
    refine k x v F1 H1 rfl a r ?_
    have h : KE K W F H σ Q (f x) := h
    revert h
    generalize f x = y
    intro h
    cases y with
    | ok y => exact fun v F2 H2 b q => h v F2 H2 (a.trans b) q
    | exc c => exact fun F2 H2 b => h F2 H2 (a.trans b)
    | stuck => exact h.elim
  | exc c => exact h
  | stuck => exact h.elim
theorem KE.adv {Q : VK} {m : Res β} (a : Adv F H F' H') (h : KE K W F H σ Q m) : KE K W F' H' σ Q m := by
  cases m with
  | ok y => exact fun v F2 H2 b q => h v F2 H2 (a.trans b) q
  | exc c => exact fun F2 H2 b => h F2 H2 (a.trans b)
  | stuck => exact h.elim
theorem KT.adv {Q : Bool → Hp → Prop} {m : Res Bool} (a : Adv F H F' H') (h : KT K W F H σ Q m) : KT K W F' H' σ Q m := by
  cases m with
  | ok y => exact fun F2 H2 b => h F2 H2 (a.trans b)
  | exc c => exact fun F2 H2 b => h F2 H2 (a.trans b)
  | stuck => exact h.elim
theorem KA.adv {δ : Type} [ToDs δ] {Q : List V → Hp → Prop} {m : Res δ} (a : Adv F H F' H') (h : KA K W F H σ Q m) : KA K W F' H' σ Q m := by
  cases m with
  | ok y => exact fun v F2 H2 b q => h v F2 H2 (a.trans b) q
  | exc c => exact fun F2 H2 b => h F2 H2 (a.trans b)
  | stuck => exact h.elim

/-- general: te then a use of its value -/
theorem use {Q Q1 : VK} {m : Res α} {F0 H0 : Hp} (hv : EvX K W env te m) (S : Sl K F0 H0 F H σ env)
    (hx : ∀ c, m = .exc c → ∀ F' H', Adv F H F' H' → W (.ref (He.ga K c)) none σ H') (hs : m ≠ .stuck)
    (k : ∀ x v F' H', m = .ok x → Adv F H F' H' → Rep K F' (toD x) v → Q1 v H') : te σ H Q1 := by
  refine hv F0 H0 F H σ Q1 S ?_
  cases m with
  | ok x => exact fun v F' H' a q => k x v F' H' rfl a q
  | exc c => exact hx c rfl
  | stuck => exact hs rfl

/-! ### names and constants -/
theorem ev_var {i : Nat} {x : α} (h : env[i]? = some (some (.im (toD x)))) : EvX K W env (tVar i) (.ok x) := fun F0 H0 F H σ Q S k => by
  obtain ⟨v, e, q⟩ := S.slot i _ h
  exact ⟨v, e, k v F H (Adv.refl S.ex) q⟩
theorem ev_int {i : Int} : EvX K W env (tC (.int i)) (.ok i) := fun F0 H0 F H σ Q S k => k _ F H (Adv.refl S.ex) rfl
theorem ev_bl {b : Bool} : EvX K W env (tC (.bl b)) (.ok b) := fun F0 H0 F H σ Q S k => k _ F H (Adv.refl S.ex) rfl
theorem ev_str {x : Str} : EvX K W env (tC (.str x)) (.ok x) := fun F0 H0 F H σ Q S k => k _ F H (Adv.refl S.ex) rfl
/-- the same value in another type -/
theorem ev_as {m : Res α} {m' : Res β} (h : EvX K W env te m) (f : α → β) (e : ∀ x, toD (f x) = toD x) (em : m.bind (fun x => .ok (f x)) = m') : EvX K W env te m' := fun F0 H0 F H σ Q S k => by
  refine h F0 H0 F H σ Q S ?_
  subst em
  cases m with
  | ok x => intro v F' H' a q; exact k v F' H' a (by rw [e]; exact q)
  | exc c => exact k
  | stuck => exact k.elim

/-! ### operators -/
def OpX (K : PySem.W.Frag) (r : R2) (f : α → β → Res γ) : Prop := ∀ (F H : Hp) (x : α) (y : β) (v u : V) (Q : VK), Ex F H → Rep K F (toD x) v → Rep K F (toD y) u →
  KE K (fun _ _ _ _ => False) F H [] Q (f x y) → r v u H Q
/-- operators let nothing out -/
def Mild (f : α → β → Res γ) : Prop := ∀ x y c, f x y ≠ .exc c
theorem KE.mild {Q : VK} {m : Res γ} (hm : ∀ c, m ≠ .exc c) (h : KE K W F H σ Q m) : KE K (fun _ _ _ _ => False) F H [] Q m := by
  cases m with
  | ok x => exact h
  | exc c => exact absurd rfl (hm c)
  | stuck => exact h.elim
theorem ev_op {m1 : Res α} {m2 : Res β} {f : α → β → Res γ} (ho : OpX K r f) (hm : Mild f) (ha : EvX K W env ta m1) (hb : EvX K W env tb m2) :
    EvX K W env (tOp r ta tb) (m1.bind fun x => m2.bind fun y => f x y) := fun F0 H0 F H σ Q S k => by
  refine ha F0 H0 F H σ _ S (KE.cut S.ex k fun x v F1 H1 e1 a1 r1 k1 => ?_)
  refine hb F0 H0 F1 H1 σ _ (S.step a1) (KE.cut a1.in_ k1 fun y u F2 H2 e2 a2 r2 k2 => ?_)
  exact ho F2 H2 x y v u Q a2.in_ (Rep.mono a2.f _ _ r1) r2 (k2.mild (hm x y))
theorem mild_ok {g : α → β → γ} : Mild (fun x y => Res.ok (g x y)) := fun _ _ _ h => nomatch h
theorem mild_need {p : α → β → Prop} {g : α → β → γ} : Mild (fun x y => Res.need (p x y) (.ok (g x y))) := fun x y c h => by
  by_cases q : p x y
  · have h : Res.need (p x y) (.ok (g x y)) = .exc c := h
    rw [Res.need_pos q] at h; cases h
  · have h : Res.need (p x y) (.ok (g x y)) = .exc c := h
    rw [Res.need_neg q] at h; cases h
theorem opx_I0 {g : Int → Int → Int} : OpX K (rI0 fun i j => .int (g i j)) (fun i j => .ok (g i j)) := fun F H x y v u Q e h1 h2 k =>
  ⟨x, y, h1, h2, k _ F H (Adv.refl e) rfl⟩
theorem opx_B0 {g : Int → Int → Bool} : OpX K (rI0 fun i j => .bl (g i j)) (fun i j => .ok (g i j)) := fun F H x y v u Q e h1 h2 k =>
  ⟨x, y, h1, h2, k _ F H (Adv.refl e) rfl⟩
theorem opx_I {C : Int → Int → Prop} {g : Int → Int → Int} : OpX K (rI C fun i j => .int (g i j)) (fun i j => .need (C i j) (.ok (g i j))) := fun F H x y v u Q e h1 h2 k => by
  by_cases c : C x y
  · have k : KE K (fun _ _ _ _ => False) F H [] Q (Res.need (C x y) (.ok (g x y))) := k
    rw [Res.need_pos c] at k
    exact ⟨x, y, h1, h2, c, k _ F H (Adv.refl e) rfl⟩
  · have k : KE K (fun _ _ _ _ => False) F H [] Q (Res.need (C x y) (.ok (g x y))) := k
    rw [Res.need_neg c] at k
    exact k.elim
/-- the same where the condition is known -/
theorem ev_opI {m1 m2 : Res Int} {C : Int → Int → Prop} {g : Int → Int → Int} (hc : ∀ x y, m1 = .ok x → m2 = .ok y → C x y) (ha : EvX K W env ta m1) (hb : EvX K W env tb m2) :
    EvX K W env (tOp (rI C fun i j => .int (g i j)) ta tb) (m1.bind fun x => m2.bind fun y => .ok (g x y)) := fun F0 H0 F H σ Q S k => by
  refine ha F0 H0 F H σ _ S (KE.cut S.ex k fun x v F1 H1 e1 a1 r1 k1 => ?_)
  refine hb F0 H0 F1 H1 σ _ (S.step a1) (KE.cut a1.in_ k1 fun y u F2 H2 e2 a2 r2 k2 => ?_)
  exact ⟨x, y, r1, r2, hc x y e1 e2, k2 _ F2 H2 (Adv.refl a2.in_) rfl⟩
theorem ev_un {m1 : Res Int} {g : Int → Int} (ha : EvX K W env ta m1) : EvX K W env (tUn (rU fun i => .int (g i)) ta) (m1.bind fun x => .ok (g x)) := fun F0 H0 F H σ Q S k => by
  refine ha F0 H0 F H σ _ S (KE.cut S.ex k fun x v F1 H1 e1 a1 r1 k1 => ?_)
  exact ⟨x, r1, k1 _ F1 H1 (Adv.refl a1.in_) rfl⟩
/-- == of two ints, two bools, two texts -/
theorem opx_eqI : OpX K rEq (fun (i j : Int) => .ok (decide (i = j))) := fun F H x y v u Q e h1 h2 k => by
  cases (show v = V.int x from h1); cases (show u = V.int y from h2)
  refine ⟨rfl, ?_⟩
  rw [show decide (V.int x = V.int y) = decide (x = y) by rw [dec_int]; rfl]
  exact k _ F H (Adv.refl e) rfl
theorem opx_neI : OpX K rNe (fun (i j : Int) => .ok (!decide (i = j))) := fun F H x y v u Q e h1 h2 k => by
  cases (show v = V.int x from h1); cases (show u = V.int y from h2)
  refine ⟨rfl, ?_⟩
  rw [show decide (V.int x = V.int y) = decide (x = y) by rw [dec_int]; rfl]
  exact k _ F H (Adv.refl e) rfl
theorem opx_eqS : OpX K rEq (fun (i j : Str) => .ok (i == j)) := fun F H x y v u Q e h1 h2 k => by
  cases (show v = V.str x from h1); cases (show u = V.str y from h2)
  refine ⟨rfl, ?_⟩
  rw [dec_str]
  exact k _ F H (Adv.refl e) rfl
theorem opx_neS : OpX K rNe (fun (i j : Str) => .ok (!(i == j))) := fun F H x y v u Q e h1 h2 k => by
  cases (show v = V.str x from h1); cases (show u = V.str y from h2)
  refine ⟨rfl, ?_⟩
  rw [dec_str]
  exact k _ F H (Adv.refl e) rfl
def D.isNon : D → Bool
  | .non => true
  | _ => false
/-! ### == of data -/
mutual
def D.py : D → PyData
  | .non => .none
  | .bl b => .bool b
  | .int i => .int i
  | .str s => .str s
  | .ty _ => .none
  | .tup xs => .tuple (pyL xs)
  | .lst xs => .list (pyL xs)
  | .obj _ _ _ => .none
  | .ro _ => .none
  | .dct _ _ => .none
def pyL : List D → List PyData
  | [] => []
  | x :: xs => D.py x :: pyL xs
end
mutual
/-- no objects, no classes within -/
def D.flat : D → Bool
  | .ty _ => false
  | .obj _ _ _ => false
  | .ro _ => false
  | .dct _ _ => false
  | .tup xs => flatL xs
  | .lst xs => flatL xs
  | _ => true
def flatL : List D → Bool
  | [] => true
  | x :: xs => D.flat x && flatL xs
end
mutual
theorem dp_of : ∀ {x : D} {v : V}, Rep K F x v → x.flat = true → Dp K F v x.py
  | .non, v, h, _ => by rw [show v = V.non from h]; exact .non
  | .bl b, v, h, _ => by rw [show v = V.bl b from h]; exact .bl b
  | .int b, v, h, _ => by rw [show v = V.int b from h]; exact .int b
  | .str b, v, h, _ => by rw [show v = V.str b from h]; exact .str b
  | .ty b, v, h, q => by cases q
  | .tup ds, v, h, q => by obtain ⟨a, vs, rfl, h2, h3⟩ := h; exact .tup h2 (dps_of h3 q)
  | .lst ds, v, h, q => by obtain ⟨a, vs, rfl, h2, h3⟩ := h; exact .lst (Evl.sq_of h2) (dps_of h3 q)
  | .obj c ks ds, v, h, q => by cases q
  | .ro ds, v, h, q => by cases q
  | .dct ks ds, v, h, q => by cases q
theorem dps_of : ∀ {xs : List D} {vs : List V}, Reps K F xs vs → flatL xs = true → DpAll K F vs (pyL xs)
  | [], vs, h, _ => by rw [show vs = [] from h]; exact .nil
  | x :: xs, vs, h, q => by
    obtain ⟨v, r, rfl, h2, h3⟩ := h
    have q2 := Bool.and_eq_true_iff.mp (show (D.flat x && flatL xs) = true from q)
    exact .cons (dp_of h2 q2.1) (dps_of h3 q2.2)
end
mutual
theorem Dp.mono {e : Ex F F'} : ∀ {v : V} {x : PyData}, Dp K F v x → Dp K F' v x
  | _, _, .non => .non
  | _, _, .bl b => .bl b
  | _, _, .int b => .int b
  | _, _, .str b => .str b
  | _, _, .lst h1 h2 => .lst (Evl.ex_l e h1) (Dps.mono (e := e) h2)
  | _, _, .tup h1 h2 => .tup (Evl.ex_t e h1) (Dps.mono (e := e) h2)
theorem Dps.mono {e : Ex F F'} : ∀ {v : List V} {x : List PyData}, DpAll K F v x → DpAll K F' v x
  | _, _, .nil => .nil
  | _, _, .cons h1 h2 => .cons (Dp.mono (e := e) h1) (Dps.mono (e := e) h2)
end
/-- data that == may be asked of -/
def D.okq (x : D) : Bool := x.flat && SeqAt.shaped x.py
def pyEq (x y : D) : Bool := PyData.eqv x.py y.py
theorem opx_eqD : OpX K (rEqD K) (fun (x : α) (y : β) => .need ((toD x).okq = true ∧ (toD y).okq = true) (.ok (pyEq (toD x) (toD y)))) := fun F H x y v u Q e h1 h2 k => by
  dsimp only at k
  by_cases c : (toD x).okq = true ∧ (toD y).okq = true
  · rw [Res.need_pos c] at k
    obtain ⟨c1, c2⟩ := c
    obtain ⟨a1, a2⟩ := Bool.and_eq_true_iff.mp c1
    obtain ⟨b1, b2⟩ := Bool.and_eq_true_iff.mp c2
    exact ⟨_, _, Dp.mono (e := e) (dp_of h1 a1), Dp.mono (e := e) (dp_of h2 b1), a2, b2, k _ F H (Adv.refl e) rfl⟩
  · rw [Res.need_neg c] at k
    exact k.elim
theorem opx_neD : OpX K (rNeD K) (fun (x : α) (y : β) => .need ((toD x).okq = true ∧ (toD y).okq = true) (.ok (!pyEq (toD x) (toD y)))) := fun F H x y v u Q e h1 h2 k => by
  dsimp only at k
  by_cases c : (toD x).okq = true ∧ (toD y).okq = true
  · rw [Res.need_pos c] at k
    obtain ⟨c1, c2⟩ := c
    obtain ⟨a1, a2⟩ := Bool.and_eq_true_iff.mp c1
    obtain ⟨b1, b2⟩ := Bool.and_eq_true_iff.mp c2
    exact ⟨_, _, Dp.mono (e := e) (dp_of h1 a1), Dp.mono (e := e) (dp_of h2 b1), a2, b2, k _ F H (Adv.refl e) rfl⟩
  · rw [Res.need_neg c] at k
    exact k.elim

/-! ### an item -/
def idx {α : Type} (xs : List α) (i : Int) : Res α := match atI xs i with
  | some x => .ok x
  | none => .stuck
theorem idx_mild {α : Type} (xs : List α) (i : Int) (c : Str) : idx xs i ≠ .exc c := by
  unfold idx; split <;> intro h <;> cases h
theorem atI_map {α β : Type} (f : α → β) (xs : List α) (i : Int) : atI (xs.map f) i = (atI xs i).map f := by
  unfold atI
  rw [List.length_map]
  cases ixN xs.length i with
  | none => rfl
  | some j => simp
theorem Reps.at {xs : List D} {vs : List V} {i : Int} {x : D} (h : Reps K F xs vs) (e : atI xs i = some x) : ∃ v, atI vs i = some v ∧ Rep K F x v := by
  unfold atI at e ⊢
  rw [← h.length]
  cases q : ixN xs.length i with
  | none => rw [q] at e; cases e
  | some j => rw [q] at e; exact Reps.get h e
theorem opx_ixL : OpX K (rIxL K) (fun (xs : List α) (i : Int) => idx xs i) := fun F H xs i v u Q e h1 h2 k => by
  obtain ⟨a, vs, rfl, hl, hr⟩ := h1
  cases (show u = V.int i from h2)
  dsimp only [idx] at k
  cases q : atI xs i with
  | none => rw [q] at k; exact k.elim
  | some x =>
    rw [q] at k
    obtain ⟨w, hw, rw_⟩ := Reps.at (i := i) hr (x := toD x) (by rw [atI_map, q]; rfl)
    exact ⟨a, vs, i, w, rfl, rfl, sq_ex e hl, hw, k _ F H (Adv.refl e) rw_⟩
theorem opx_ixT : OpX K (rIxT K) (fun (xs : Tu α) (i : Int) => idx xs.xs i) := fun F H xs i v u Q e h1 h2 k => by
  obtain ⟨a, vs, rfl, hl, hr⟩ := h1
  cases (show u = V.int i from h2)
  dsimp only [idx] at k
  cases q : atI xs.xs i with
  | none => rw [q] at k; exact k.elim
  | some x =>
    rw [q] at k
    obtain ⟨w, hw, rw_⟩ := Reps.at (i := i) hr (x := toD x) (by rw [atI_map, q]; rfl)
    exact ⟨a, vs, i, w, rfl, rfl, Evl.ex_t e hl, hw, k _ F H (Adv.refl e) rw_⟩
/-- t[i], i written, t a tuple whose parts have types of their own -/
theorem ev_ixTC {m : Res α} {i : Int} {f : α → β} (ha : EvX K W env ta m) (hf : ∀ x, ∃ ds, toD x = .tup ds ∧ atI ds i = some (toD (f x))) :
    EvX K W env (tOp (rIxT K) ta (tC (.int i))) (m.bind fun x => .ok (f x)) := fun F0 H0 F H σ Q S k => by
  refine ha F0 H0 F H σ _ S (KE.cut S.ex k fun x v F1 H1 e1 a1 r1 k1 => ?_)
  obtain ⟨ds, e, q⟩ := hf x
  rw [e] at r1
  obtain ⟨a, vs, rfl, hl, hr⟩ := r1
  obtain ⟨w, hw, rw_⟩ := Reps.at (i := i) hr q
  exact ⟨a, vs, i, w, rfl, rfl, Evl.ex_t a1.in_ hl, hw, k1 _ F1 H1 (Adv.refl a1.in_) rw_⟩
/-! ### tests, and, or, not -/
theorem et_test {m : Res Bool} (ha : EvX K W env te m) : EvT K W env (tTest te) m := fun F0 H0 F H σ Q S k => by
  refine ha F0 H0 F H σ _ S ?_
  cases m with
  | ok b => exact fun v F' H' a q => ⟨b, q, k F' H' a⟩
  | exc c => exact k
  | stuck => exact k.elim
theorem et_B {m : Res Bool} (ha : EvX K W env te m) : EvT K W env (tB te) m := et_test ha
theorem et_not {m : Res Bool} (ha : EvT K W env tt m) : EvT K W env (tNot tt) (m.bind fun b => .ok (!b)) := fun F0 H0 F H σ Q S k => by
  refine ha F0 H0 F H σ _ S ?_
  cases m with
  | ok b => exact k
  | exc c => exact k
  | stuck => exact k.elim
theorem et_or {m1 m2 : Res Bool} (ha : EvT K W env tt m1) (hb : EvT K W env tu m2) : EvT K W env (tOr tt tu) (m1.bind fun b => cond b (.ok true) m2) := fun F0 H0 F H σ Q S k => by
  refine ha F0 H0 F H σ _ S ?_
  cases m1 with
  | ok b =>
    intro F' H' a
    cases b with
    | false =>
      have k : KT K W F H σ Q m2 := k
      show tu σ H' Q
      exact hb F0 H0 F' H' σ Q (S.step a) (k.adv a)
    | true => exact k F' H' a
  | exc c => exact k
  | stuck => exact k.elim
theorem ev_andV {m1 m2 : Res Bool} (ha : EvX K W env ta m1) (hb : EvX K W env tb m2) : EvX K W env (tAndV ta tb) (m1.bind fun b => cond b m2 (.ok false)) := fun F0 H0 F H σ Q S k => by
  refine ha F0 H0 F H σ _ S ?_
  cases m1 with
  | ok b =>
    intro v F' H' a r
    refine ⟨b, r, ?_⟩
    cases b with
    | true =>
      have k : KE K W F H σ Q m2 := k
      exact hb F0 H0 F' H' σ Q (S.step a) (k.adv a)
    | false => exact k _ F' H' a rfl
  | exc c => exact k
  | stuck => exact k.elim
theorem ev_orV {m1 m2 : Res Bool} (ha : EvX K W env ta m1) (hb : EvX K W env tb m2) : EvX K W env (tOrV ta tb) (m1.bind fun b => cond b (.ok true) m2) := fun F0 H0 F H σ Q S k => by
  refine ha F0 H0 F H σ _ S ?_
  cases m1 with
  | ok b =>
    intro v F' H' a r
    refine ⟨b, r, ?_⟩
    cases b with
    | false =>
      have k : KE K W F H σ Q m2 := k
      exact hb F0 H0 F' H' σ Q (S.step a) (k.adv a)
    | true => exact k _ F' H' a rfl
  | exc c => exact k
  | stuck => exact k.elim
theorem ev_notV {m : Res Bool} (ha : EvX K W env ta m) : EvX K W env (tNotV ta) (m.bind fun b => .ok (!b)) := fun F0 H0 F H σ Q S k => by
  refine ha F0 H0 F H σ _ S ?_
  cases m with
  | ok b => exact fun v F' H' a r => ⟨b, r, k _ F' H' a rfl⟩
  | exc c => exact k
  | stuck => exact k.elim
/-- a < b < c -/
theorem ev_chain {m1 : Res α} {m2 : Res β} {m3 : Res γ} {r' : R2} {f : α → β → Res Bool} {g : β → γ → Res Bool} (ho : OpX K r f) (hf : Mild f) (ho' : OpX K r' g) (hg : Mild g) (ha : EvX K W env ta m1) (hb : EvX K W env tb m2) (hc : EvX K W env tc m3) :
    EvX K W env (tChain r r' ta tb tc) (m1.bind fun x => m2.bind fun y => (f x y).bind fun b => cond b (m3.bind fun z => g y z) (.ok false)) := fun F0 H0 F H σ Q S k => by
  refine ha F0 H0 F H σ _ S (KE.cut S.ex k fun x v F1 H1 e1 a1 r1 k1 => ?_)
  refine hb F0 H0 F1 H1 σ _ (S.step a1) (KE.cut a1.in_ k1 fun y u F2 H2 e2 a2 r2 k2 => ?_)
  refine ho F2 H2 x y v u _ a2.in_ (Rep.mono a2.f _ _ r1) r2 ?_
  cases q : f x y with
  | ok b =>
    rw [q] at k2
    intro w F3 H3 a3 rb
    refine ⟨b, rb, ?_⟩
    cases b with
    | true =>
      have k3 : KE K W F2 H2 σ Q (m3.bind fun z => g y z) := k2
      show tc σ H3 _
      refine hc F0 H0 F3 H3 σ _ (((S.step a1).step a2).step a3) (KE.cut a3.in_ (k3.adv a3) fun z w F4 H4 e4 a4 r4 k4 => ?_)
      exact ho' F4 H4 y z u w Q a4.in_ (Rep.mono (a3.trans a4).f _ _ r2) r4 (k4.mild (hg y z))
    | false => exact k2 _ F3 H3 a3 rfl
  | exc c => exact absurd q (hf x y c)
  | stuck => rw [q] at k2; exact k2.elim

/-! ### arguments, displays, calls -/
theorem ea_nil : EvA K W env tNil (.ok ()) := fun F0 H0 F H σ Q S k => k [] F H (Adv.refl S.ex) rfl
theorem ea_cons {δ : Type} [ToDs δ] {t : TA} {m1 : Res α} {m2 : Res δ} (ha : EvX K W env te m1) (hb : EvA K W env t m2) : EvA K W env (tCons te t) (m1.bind fun x => m2.bind fun y => .ok (x, y)) := fun F0 H0 F H σ Q S k => by
  refine ha F0 H0 F H σ _ S ?_
  cases m1 with
  | ok x =>
    intro v F1 H1 a1 r1
    have k1 : KA K W F H σ Q (m2.bind fun y => .ok (x, y)) := k
    refine hb F0 H0 F1 H1 σ _ (S.step a1) ?_
    cases m2 with
    | ok y =>
      intro vs F2 H2 a2 r2
      exact k1 (v :: vs) F2 H2 (a1.trans a2) ⟨v, vs, rfl, Rep.mono a2.f _ _ r1, r2⟩
    | exc c => exact fun F2 H2 a2 => k1 F2 H2 (a1.trans a2)
    | stuck => exact k1.elim
  | exc c => exact k
  | stuck => exact k.elim
/-- a tuple that is made; its type by f -/
theorem ev_tup {δ : Type} [ToDs δ] {t : TA} {m : Res δ} {f : δ → α} (ha : EvA K W env t m) (hf : ∀ y : δ, toD (f y) = .tup (ToDs.ds y)) (hn : ∀ y : δ, (ToDs.ds y).length ≤ 100000) : EvX K W env (tTup t) (m.bind fun y => .ok (f y)) := fun F0 H0 F H σ Q S k => by
  refine ha F0 H0 F H σ _ S ?_
  cases m with
  | ok y =>
    intro vs F1 H1 a1 r1
    refine ⟨by rw [← r1.length]; exact Evl.sz_of (hn y), fun p hp => ?_⟩
    have a2 : Adv F1 H1 (upd F1 p (.tup vs)) (upd H1 p (.tup vs)) := Adv.new a1.in_ hp
    refine k _ _ _ (a1.trans a2) ?_
    rw [hf]
    exact ⟨p, vs, rfl, .inl (.inl upd_same), Reps.mono a2.f _ _ r1⟩
  | exc c => exact k
  | stuck => exact k.elim
/-- a list that is made -/
theorem en_lst {δ : Type} [ToDs δ] {t : TA} {m : Res δ} {f : δ → List α} (ha : EvA K W env t m) (hf : ∀ y : δ, (f y).map toD = ToDs.ds y) (hn : ∀ y : δ, (ToDs.ds y).length ≤ 100000) : EvN K W env (tLst t) (m.bind fun y => .ok (f y)) := fun F0 H0 F H σ Q S k => by
  refine ha F0 H0 F H σ _ S ?_
  cases m with
  | ok y =>
    intro vs F1 H1 a1 r1
    refine ⟨by rw [← r1.length]; exact Evl.sz_of (hn y), fun p hp => ?_⟩
    refine k p vs _ _ (a1.trans (Adv.newO a1.in_ hp)) (Evl.fresh_back a1.h hp) (none_of_ex a1.in_ hp) upd_same ?_
    rw [hf]
    exact r1
  | exc c => exact k
  | stuck => exact k.elim
/-- a new list as a value that is not changed later -/
theorem ev_ofN {m : Res (List α)} (h : EvN K W env te m) : EvX K W env te m := fun F0 H0 F H σ Q S k => by
  refine h F0 H0 F H σ Q S ?_
  cases m with
  | ok xs =>
    intro p vs F1 H1 a1 hp hf hh r
    have e : Ex F1 (upd F1 p (.lst vs)) := Ex.new hf
    refine k _ (upd F1 p (.lst vs)) H1 ⟨a1.f.trans e, a1.h, fun a u q => ?_, fun q h1 h2 => ?_⟩ ⟨p, vs, rfl, upd_same, Reps.mono e _ _ r⟩
    · by_cases z : a = p
      · subst z; rw [upd_same] at q; cases q; exact hh
      · rw [upd_ne z] at q; exact a1.in_ a u q
    · have z : q ≠ p := fun z => h2 (by rw [z]; exact hp)
      rw [upd_ne z]; exact a1.out q h1 h2
  | exc c => exact k
  | stuck => exact k.elim
/-- a def's promise, by the function that tells what it gives -/
def spM (K : PySem.W.Frag) {δ : Type} [ToDs δ] (f : δ → Res α) : Sp := fun vs H Q E => ∃ F x, Ex F H ∧ Reps K F (ToDs.ds x) vs ∧ KE K (fun cls d _ H => E cls d H) F H [] Q (f x)
theorem ev_call {δ : Type} [ToDs δ] {t : TA} {m : Res δ} {f : δ → Res α} (ha : EvA K W env t m) : EvX K W env (tCallS (spM K f) (WE W) t) (m.bind f) := fun F0 H0 F H σ Q S k => by
  refine ha F0 H0 F H σ _ S ?_
  cases m with
  | ok y =>
    intro vs F1 H1 a1 r1
    refine ⟨F1, y, a1.in_, r1, ?_⟩
    have k : KE K W F H σ Q (f y) := k
    have k := k.adv a1
    revert k
    generalize f y = z
    intro k
    cases z with
    | ok z => exact k
    | exc c => exact k
    | stuck => exact k.elim
  | exc c => exact k
  | stuck => exact k.elim
namespace Res
def noexc {α : Type} : Res α → Res α
  | .exc _ => .stuck
  | m => m
end Res
/-- a call of a def that lets nothing out there -/
theorem ev_call0 {δ : Type} [ToDs δ] {t : TA} {m : Res δ} {f : δ → Res α} (ha : EvA K W env t m) : EvX K W env (tCall (spM K f) [] E0 t) (m.bind fun y => (f y).noexc) := fun F0 H0 F H σ Q S k => by
  refine ha F0 H0 F H σ _ S ?_
  cases m with
  | ok y =>
    intro vs F1 H1 a1 r1
    refine ⟨F1, y, a1.in_, by rw [List.append_nil]; exact r1, ?_⟩
    have k : KE K W F H σ Q (f y).noexc := k
    have k := k.adv a1
    revert k
    generalize f y = z
    intro k
    cases z with
    | ok z => exact k
    | exc c => exact k.elim
    | stuck => exact k.elim
  | exc c => exact k
  | stuck => exact k.elim
/-- built-in defs by their values -/
def CrX (K : PySem.W.Frag) (r : List V → Hp → VK → Prop) {δ : Type} [ToDs δ] (f : δ → Res α) : Prop := ∀ (F H : Hp) (x : δ) (vs : List V) (Q : VK), Ex F H → Reps K F (ToDs.ds x) vs → KE K (fun _ _ _ _ => False) F H [] Q (f x) → r vs H Q
theorem ev_cb {δ : Type} [ToDs δ] {r : List V → Hp → VK → Prop} {t : TA} {m : Res δ} {f : δ → Res α} (ho : CrX K r f) (hm : ∀ x c, f x ≠ .exc c) (ha : EvA K W env t m) : EvX K W env (tCB r t) (m.bind f) := fun F0 H0 F H σ Q S k => by
  refine ha F0 H0 F H σ _ S ?_
  cases m with
  | ok y =>
    intro vs F1 H1 a1 r1
    have k : KE K W F H σ Q (f y) := k
    exact ho F1 H1 y vs Q a1.in_ r1 ((k.adv a1).mild (hm y))
  | exc c => exact k
  | stuck => exact k.elim
end
end Mi
set_option maxHeartbeats 1000000
namespace Mi
open PySem PySem.Spec L2
open Evl (Ex)

/-! ### statements -/
inductive EnLe : En → En → Prop
  | nil : EnLe [] []
  | same {e : Option Sk} {l m : En} : EnLe l m → EnLe (e :: l) (e :: m)
  | drop {e : Option Sk} {l m : En} : EnLe l m → EnLe (e :: l) (none :: m)
theorem EnLe.refl : ∀ l : En, EnLe l l
  | [] => .nil
  | _ :: l => .same (EnLe.refl l)
theorem EnLe.get : ∀ {l m : En}, EnLe l m → ∀ {i : Nat} {sk : Sk}, m[i]? = some (some sk) → l[i]? = some (some sk)
  | _, _, .nil, i, sk, h => h
  | _, _, .same t, 0, sk, h => h
  | _, _, .same t, i + 1, sk, h => EnLe.get t (by simpa using h)
  | _, _, .drop t, 0, sk, h => by simp at h
  | _, _, .drop t, i + 1, sk, h => EnLe.get t (by simpa using h)
theorem EnLe.len {l m : En} (h : EnLe l m) : l.length = m.length := by
  induction h with
  | nil => rfl
  | same _ ih => simp [ih]
  | drop _ ih => simp [ih]
theorem Sl.weak {K : PySem.W.Frag} {F0 H0 F H : Hp} {σ : L2.St} {env env' : En} (S : Sl K F0 H0 F H σ env) (h : EnLe env env') : Sl K F0 H0 F H σ env' :=
  ⟨S.adv, fun i sk e => S.slot i sk (h.get e), fun i j sk sk' p hij e1 e2 => S.dis i j sk sk' p hij (h.get e1) (h.get e2), S.len.trans h.len⟩
def Blk (K : PySem.W.Frag) (F0 H0 : Hp) {τ : Type} (KP : Res τ → Prop) (T : L2.St → Hp → Prop) (env : En) (m : Res τ) : Prop :=
  ∀ F H σ, Sl K F0 H0 F H σ env → KP m → T σ H
/-- what is asked of a returned value besides: of most types nothing -/
class ToR (τ : Type) where
  fr : PySem.W.Frag → τ → V → Hp → Hp → Hp → Prop
instance (priority := low) dfltR {τ : Type} : ToR τ := ⟨fun _ _ _ _ _ _ => True⟩
class DR (τ : Type) [ToR τ] : Prop where
  tr : ∀ K (x : τ) v H0 F H, ToR.fr K x v H0 F H
instance (priority := low) dfltD {τ : Type} : @DR τ dfltR := @DR.mk τ dfltR fun _ _ _ _ _ _ => trivial
structure Lk (K : PySem.W.Frag) (W : WX) (F0 H0 : Hp) (rt : VK) (PT : En → Prop) {τ : Type} [ToD τ] [ToR τ] (KP : Res τ → Prop) : Prop where
  ok : ∀ x, KP (.ok x) → ∀ v F H, Adv F0 H0 F H → Rep K F (toD x) v → ToR.fr K x v H0 F H → rt v H
  exc : ∀ c F H σ env, KP (.exc c) → PT env → Sl K F0 H0 F H σ env → W (.ref (He.ga K c)) none σ H
  no : ¬ KP .stuck
section
variable {K : PySem.W.Frag} {W : WX} {F0 H0 F H F' H' F1 : Hp} {rt : VK} {PT : En → Prop} {env env' : En} {α β γ τ : Type} [ToD α] [ToD β] [ToD γ] [ToD τ] [ToR τ] {KP : Res τ → Prop} {te ta tb tc : TE} {tt : TT} {Z : Ends} {t u : TS} {T : L2.St → Hp → Prop}
theorem Sl.base {σ : L2.St} (S : Sl K F0 H0 F1 H' σ env) {σ' : L2.St} (S' : Sl K F1 H0 F H σ' env') : Sl K F0 H0 F H σ' env' :=
  ⟨⟨S.adv.f.trans S'.adv.f, S'.adv.h, S'.adv.in_, fun p h1 h2 => S'.adv.out p (S.adv.out p h1 h2) h2⟩, S'.slot, S'.dis, S'.len⟩
theorem Lk.base (L : Lk K W F0 H0 rt PT KP) {σ : L2.St} (S : Sl K F0 H0 F1 H' σ env) : Lk K W F1 H0 rt PT KP :=
  ⟨fun x h v F H a r => L.ok x h v F H ⟨S.adv.f.trans a.f, a.h, a.in_, fun p h1 h2 => a.out p (S.adv.out p h1 h2) h2⟩ r,
   fun c F H σ' env' h p S' => L.exc c F H σ' env' h p (S.base S'), L.no⟩
theorem Blk.base {m : Res τ} (B : Blk K F0 H0 KP T env' m) {σ : L2.St} (S : Sl K F0 H0 F1 H' σ env) : Blk K F1 H0 KP T env' m := fun F H σ' S' h => B F H σ' (S.base S') h
theorem Blk.weak {m : Res τ} (B : Blk K F0 H0 KP T env' m) (h : EnLe env env') : Blk K F0 H0 KP T env m := fun F H σ S k => B F H σ (S.weak h) k

/-- what follows an expression in a block -/
theorem Lk.ke (L : Lk K W F0 H0 rt PT KP) (hT : PT env) {σ : L2.St} (S : Sl K F0 H0 F H σ env) {m : Res α} {f : α → Res τ} (h : KP (m.bind f)) {Q : VK}
    (k : ∀ x v F' H', m = .ok x → Adv F H F' H' → Rep K F' (toD x) v → KP (f x) → Q v H') : KE K W F H σ Q m := by
  cases m with
  | ok x => exact fun v F' H' a r => k x v F' H' rfl a r h
  | exc c => exact fun F' H' a => L.exc c F' H' σ env h hT (S.step a)
  | stuck => exact (L.no h).elim
theorem Lk.kt (L : Lk K W F0 H0 rt PT KP) (hT : PT env) {σ : L2.St} (S : Sl K F0 H0 F H σ env) {m : Res Bool} {f : Bool → Res τ} (h : KP (m.bind f)) {Q : Bool → Hp → Prop}
    (k : ∀ x F' H', m = .ok x → Adv F H F' H' → KP (f x) → Q x H') : KT K W F H σ Q m := by
  cases m with
  | ok x => exact fun F' H' a => k x F' H' rfl a h
  | exc c => exact fun F' H' a => L.exc c F' H' σ env h hT (S.step a)
  | stuck => exact (L.no h).elim
theorem Lk.kn (L : Lk K W F0 H0 rt PT KP) (hT : PT env) {σ : L2.St} (S : Sl K F0 H0 F H σ env) {m : Res (List α)} {f : List α → Res τ} (h : KP (m.bind f)) {Q : VK}
    (k : ∀ xs p vs F' H', m = .ok xs → Adv F H F' H' → H p = none → F' p = none → H' p = some (.lst vs) → Reps K F' (xs.map toD) vs → KP (f xs) → Q (.ref p) H') : KN K W F H σ Q m := by
  cases m with
  | ok x => exact fun p vs F' H' a h1 h2 h3 h4 => k x p vs F' H' rfl a h1 h2 h3 h4 h
  | exc c => exact fun F' H' a => L.exc c F' H' σ env h hT (S.step a)
  | stuck => exact (L.no h).elim

theorem blk_seq {m : Res τ} (h : Blk K F0 H0 KP (t { Z with nx := u Z }) env m) : Blk K F0 H0 KP (tSeq t u Z) env m := h
theorem blk_nil {m : Res τ} (h : Blk K F0 H0 KP Z.nx env m) : Blk K F0 H0 KP (tNext Z) env m := h

theorem Blk.nx {m : Res τ} {T bk ct : L2.St → Hp → Prop} {r : VK} (h : Blk K F0 H0 KP T env m) : Blk K F0 H0 KP (Ends.nx ⟨T, r, bk, ct⟩) env m := h
/-! targets -/
def GX (K : PySem.W.Frag) (g : TG) (x : D) (f : En → En) (ws : List Nat) : Prop := ∀ (F0 H0 F H : Hp) (σ : L2.St) (env : En) (v : V) (T : L2.St → Hp → Prop), Sl K F0 H0 F H σ env → Rep K F x v →
  (∀ σ', Sl K F0 H0 F H σ' (f env) → σ'.length = σ.length → (∀ j, j ∉ ws → σ'[j]? = σ[j]?) → T σ' H) → g v σ H T
def GXs (K : PySem.W.Frag) (g : TGs) (xs : List D) (f : En → En) (ws : List Nat) : Prop := ∀ (F0 H0 F H : Hp) (σ : L2.St) (env : En) (vs : List V) (T : L2.St → Hp → Prop), Sl K F0 H0 F H σ env → Reps K F xs vs →
  (∀ σ', Sl K F0 H0 F H σ' (f env) → σ'.length = σ.length → (∀ j, j ∉ ws → σ'[j]? = σ[j]?) → T σ' H) → g vs σ H T
def stE (i : Nat) (x : D) : En → En := fun env => env.set i (some (.im x))
theorem gx_name {i : Nat} {x : D} : GX K (gName i) x (stE i x) [i] := fun F0 H0 F H σ env v T S r k =>
  k _ (S.setIm r) (by rw [List.length_set]) fun j hj => List.getElem?_set_ne fun e => hj (by rw [e]; exact List.mem_singleton.mpr rfl)
theorem gxs_nil : GXs K gNil [] (fun e => e) [] := fun F0 H0 F H σ env vs T S r k => ⟨r, k σ S rfl fun _ _ => rfl⟩
theorem gxs_cons {g : TG} {gs : TGs} {x : D} {xs : List D} {f1 f2 : En → En} {w1 w2 : List Nat} (h1 : GX K g x f1 w1) (h2 : GXs K gs xs f2 w2) : GXs K (gCons g gs) (x :: xs) (fun e => f2 (f1 e)) (w1 ++ w2) := fun F0 H0 F H σ env vs T S r k => by
  obtain ⟨v, rs, rfl, r1, r2⟩ := r
  refine ⟨v, rs, rfl, h1 F0 H0 F H σ env v _ S r1 fun σ1 S1 l1 o1 => ?_⟩
  refine h2 F0 H0 F H σ1 _ rs T S1 r2 fun σ2 S2 l2 o2 => ?_
  refine k σ2 S2 (l2.trans l1) fun j hj => ?_
  rw [o2 j fun z => hj (List.mem_append_right _ z), o1 j fun z => hj (List.mem_append_left _ z)]
theorem gx_tup {gs : TGs} {n : Nat} {xs : List D} {f : En → En} {ws : List Nat} (h : GXs K gs xs f ws) (hn : xs.length = n) : GX K (gTup K n gs) (.tup xs) f ws := fun F0 H0 F H σ env v T S r k => by
  obtain ⟨a, vs, rfl, h1, h2⟩ := r
  exact ⟨a, vs, rfl, Evl.ex_t S.ex h1, by rw [← h2.length]; exact hn, h F0 H0 F H σ env vs T S h2 k⟩

theorem blk_asg {g : TG} {m : Res α} {f : α → Res τ} {fe : α → En → En} {ws : List Nat} (L : Lk K W F0 H0 rt PT KP) (hT : PT env) (he : EvX K W env te m) (hg : ∀ x, GX K g (toD x) (fe x) ws)
    (k : ∀ x, Blk K F0 H0 KP Z.nx (fe x env) (f x)) : Blk K F0 H0 KP (tAsg te g Z) env (m.bind f) := fun F H σ S h =>
  he F0 H0 F H σ _ S (L.ke hT S h fun x v F1 H1 e1 a1 r1 h1 => hg x F0 H0 F1 H1 σ env v _ (S.step a1) r1 fun σ' S' _ _ => k x F1 H1 σ' S' h1)
theorem blk_set {i : Nat} {m : Res α} {f : α → Res τ} (L : Lk K W F0 H0 rt PT KP) (hT : PT env) (he : EvX K W env te m)
    (k : ∀ x, Blk K F0 H0 KP Z.nx (env.set i (some (.im (toD x)))) (f x)) : Blk K F0 H0 KP (tAsg te (gName i) Z) env (m.bind f) :=
  blk_asg L hT he (fun _ => gx_name) k
/-- x = a new list that is changed later -/
theorem blk_own {i : Nat} {m : Res (List α)} {f : List α → Res τ} (L : Lk K W F0 H0 rt PT KP) (hT : PT env) (he : EvN K W env te m)
    (k : ∀ xs, Blk K F0 H0 KP Z.nx (env.set i (some (.ow (xs.map toD)))) (f xs)) : Blk K F0 H0 KP (tAsg te (gName i) Z) env (m.bind f) := fun F H σ S h =>
  he F0 H0 F H σ _ S (L.kn hT S h fun xs p vs F1 H1 e1 a1 hp hf hh r h1 => by
    have S1 := S.step a1
    refine k xs F1 H1 _ (S1.setOw (Evl.fresh_back S.adv.h hp) hf hh (fun j sk' e ho z => ?_) r) h1
    obtain ⟨v, e2, q⟩ := S.slot j _ e
    obtain ⟨p', o', rfl, _, _, q4⟩ := q.at ho
    rw [e2] at z
    cases z
    rw [hp] at q4; cases q4)
/-- x.append(e), x an owned list -/
theorem blk_app {i : Nat} {xs : List β} {m : Res β} {f : β → Res τ} (L : Lk K W F0 H0 rt PT KP) (hT : PT env) (hx : env[i]? = some (some (.ow (xs.map toD)))) (he : EvX K W env te m)
    (k : ∀ y, Blk K F0 H0 KP Z.nx (env.set i (some (.ow ((xs ++ [y]).map toD)))) (f y)) :
    Blk K F0 H0 KP (tDrop (tBM K "list" rAppend (tVar i) (tCons te tNil)) Z) env (m.bind fun y => .need (xs.length < 16777216) (f y)) := fun F H σ S h => by
  obtain ⟨v, e, p, vs, rfl, h0, hf, hp, hr⟩ := S.slot i _ hx
  refine ⟨_, e, .inl ⟨rfl, _, .inl (.inl hp)⟩, ?_⟩
  refine he F0 H0 F H σ _ S (L.ke hT S h fun y u F1 H1 e1 a1 r1 h1 => ?_)
  by_cases c : xs.length < 16777216
  · rw [Res.need_pos c] at h1
    have hr' := Reps.mono a1.f _ _ hr
    refine ⟨p, vs, u, rfl, rfl, a1.h _ _ hp, by rw [sizeLine_eq, ← hr.length, List.length_map]; exact c, ?_⟩
    refine k y F1 _ σ ((S.step a1).chg hx e (a1.out p hf (by rw [hp]; simp)) h0 ?_) h1
    rw [List.map_append]
    exact Reps.append hr' (Reps.one r1)
  · rw [Res.need_neg c] at h1
    exact (L.no h1).elim
/-- x[i] = e, x an owned list -/
theorem blk_setI {i : Nat} {xs : List β} {m : Res β} {mi : Res Int} {f : List β → Res τ} (L : Lk K W F0 H0 rt PT KP) (hT : PT env) (hx : env[i]? = some (some (.ow (xs.map toD)))) (he : EvX K W env te m) (hi : EvX K W env tb mi)
    (k : ∀ ys, Blk K F0 H0 KP Z.nx (env.set i (some (.ow (ys.map toD)))) (f ys)) :
    Blk K F0 H0 KP (tAsg te (gSub (tVar i) tb rSetL) Z) env (m.bind fun y => mi.bind fun j => match ixN xs.length j with | some a => f (xs.set a y) | none => .stuck) := fun F H σ S h => by
  obtain ⟨v, e, p, vs, rfl, h0, hf, hp, hr⟩ := S.slot i _ hx
  refine he F0 H0 F H σ _ S (L.ke hT S h fun y u F1 H1 e1 a1 r1 h1 => ?_)
  refine ⟨_, e, ?_⟩
  refine hi F0 H0 F1 H1 σ _ (S.step a1) (L.ke hT (S.step a1) h1 fun j w F2 H2 e2 a2 r2 h2 => ?_)
  cases (show w = V.int j from r2)
  have hr' := Reps.mono (a1.trans a2).f _ _ hr
  have ha := (a1.trans a2)
  have hl : vs.length = xs.length := by rw [← hr.length, List.length_map]
  cases q : ixN xs.length j with
  | none => rw [q] at h2; exact (L.no h2).elim
  | some a =>
    rw [q] at h2
    refine ⟨p, vs, j, a, rfl, rfl, ha.h _ _ hp, by rw [hl]; exact q, ?_⟩
    refine k (xs.set a y) F2 _ σ ((S.step ha).chg hx e (ha.out p hf (by rw [hp]; simp)) h0 ?_) h2
    rw [List.map_set]
    exact Reps.set a hr' (Rep.mono a2.f _ _ r1)
theorem blk_freeze {xs : List D} (i : Nat) {m : Res τ} (hx : env[i]? = some (some (.ow xs))) (k : Blk K F0 H0 KP T (env.set i (some (.im (.lst xs)))) m) : Blk K F0 H0 KP T env m := fun F H σ S h => by
  obtain ⟨F', _, S'⟩ := S.freeze hx
  exact k F' H σ S' h
theorem blk_if {m : Res Bool} {f : Bool → Res τ} (L : Lk K W F0 H0 rt PT KP) (hT : PT env) (hc : EvT K W env tt m) (h1 : Blk K F0 H0 KP (t Z) env (f true)) (h2 : Blk K F0 H0 KP (u Z) env (f false)) :
    Blk K F0 H0 KP (tIfS tt t u Z) env (m.bind f) := fun F H σ S h =>
  hc F0 H0 F H σ _ S (L.kt hT S h fun b F1 H1 e1 a1 k1 => by
    cases b with
    | true => exact h1 F1 H1 σ (S.step a1) k1
    | false => exact h2 F1 H1 σ (S.step a1) k1)
theorem blk_ret {m : Res τ} [DR τ] (L : Lk K W F0 H0 rt PT KP) (hT : PT env) (he : EvX K W env te m) (hZ : Z.rt = rt := by rfl) : Blk K F0 H0 KP (tRet te Z) env m := fun F H σ S h => by
  subst hZ
  rw [← Res.bind_pure m] at h
  exact he F0 H0 F H σ _ S (L.ke hT S h fun x v F1 H1 e1 a1 r1 h1 => L.ok x h1 v F1 H1 (S.adv.trans a1) r1 (DR.tr _ _ _ _ _ _))
/-- a value of another type is handed back -/
theorem blk_retAs {m : Res α} {f : α → τ} [DR τ] (L : Lk K W F0 H0 rt PT KP) (hT : PT env) (he : EvX K W env te m) (hf : ∀ x, toD (f x) = toD x) (hZ : Z.rt = rt := by rfl) : Blk K F0 H0 KP (tRet te Z) env (m.bind fun x => .ok (f x)) := fun F H σ S h => by
  subst hZ
  exact he F0 H0 F H σ _ S (L.ke hT S h fun x v F1 H1 e1 a1 r1 h1 => L.ok (f x) h1 v F1 H1 (S.adv.trans a1) (by rw [hf]; exact r1) (DR.tr _ _ _ _ _ _))
/-- raise X('..') -/
theorem blk_raise {c : Str} (L : Lk K W F0 H0 rt PT KP) (hT : PT env) : Blk K F0 H0 KP (fun σ H => W (.ref (He.ga K c)) none σ H) env (.exc c) := fun F H σ S h => L.exc c F H σ env h hT S
/-- x op= e -/
theorem blk_aug {i : Nat} {x : Int} {m : Res Int} {f : Int → Res τ} {g : Int → Int → Int} (L : Lk K W F0 H0 rt PT KP) (hT : PT env) (hx : env[i]? = some (some (.im (.int x)))) (he : EvX K W env te m)
    (k : ∀ y, Blk K F0 H0 KP Z.nx (env.set i (some (.im (.int (g x y))))) (f y)) : Blk K F0 H0 KP (tAug i te (ipI g) Z) env (m.bind f) := fun F H σ S h => by
  obtain ⟨v, e, q⟩ := S.slot i _ hx
  cases (show v = V.int x from q)
  refine ⟨_, e, he F0 H0 F H σ _ S (L.ke hT S h fun y w F1 H1 e1 a1 r1 k1 => ?_)⟩
  exact ⟨x, y, rfl, r1, k y F1 H1 _ ((S.step a1).setIm rfl) k1⟩
/-! ### loops -/
structure JS (K : PySem.W.Frag) (F : Hp) (J : It) (xs : List D) : Prop where
  go : ∀ i H, Ex F H → i < xs.length → J.go i H
  stop : ∀ i H, Ex F H → xs.length ≤ i → J.stop i H
  yld : ∀ i H v H' F1, Ex F F1 → Ex F1 H → i < xs.length → J.yld i H v H' → ∃ F2 x, Adv F1 H F2 H' ∧ xs[i]? = some x ∧ Rep K F2 x v
def KI (K : PySem.W.Frag) (W : WX) (F H : Hp) (σ : L2.St) {α : Type} [ToD α] (R : It → Hp → Prop) : Res (List α) → Prop
  | .ok xs => ∀ J F' H', Adv F H F' H' → JS K F' J (xs.map toD) → R J H'
  | .exc c => ∀ F' H', Adv F H F' H' → W (.ref (He.ga K c)) none σ H'
  | .stuck => False
def EvI (K : PySem.W.Frag) (W : WX) (env : En) (wi : TI) {α : Type} [ToD α] (m : Res (List α)) : Prop :=
  ∀ F0 H0 F H σ R, Sl K F0 H0 F H σ env → KI K W F H σ R m → wi σ H R
theorem Lk.ki (L : Lk K W F0 H0 rt PT KP) (hT : PT env) {σ : L2.St} (S : Sl K F0 H0 F H σ env) {m : Res (List α)} {f : List α → Res τ} (h : KP (m.bind f)) {R : It → Hp → Prop}
    (k : ∀ xs J F' H', m = .ok xs → Adv F H F' H' → JS K F' J (xs.map toD) → KP (f xs) → R J H') : KI K W F H σ R m := by
  cases m with
  | ok x => exact fun J F' H' a h1 => k x J F' H' rfl a h1 h
  | exc c => exact fun F' H' a => L.exc c F' H' σ env h hT (S.step a)
  | stuck => exact (L.no h).elim
theorem js_list {a : Addr} {vs : List V} {xs : List D} (hl : SqL K F a vs) (hr : Reps K F xs vs) : JS K F (Itl K a) xs := by
  have hn := hr.length
  refine ⟨fun i H e hi => ?_, fun i H e hi => ?_, fun i H v H' F1 e1 e2 hi hy => ?_⟩
  · exact ⟨vs, vs[i]'(by omega), Evl.ex_l e hl, List.getElem?_eq_getElem (by omega)⟩
  · exact ⟨vs, Evl.ex_l e hl, by omega⟩
  · obtain ⟨e, f⟩ := hy
    subst e
    have g := f vs (Evl.ex_l (e1.trans e2) hl)
    obtain ⟨w, q1, q2⟩ := hr.get (i := i) (e := xs[i]) (List.getElem?_eq_getElem hi)
    rw [g] at q1; cases q1
    exact ⟨F1, xs[i], Adv.refl e2, List.getElem?_eq_getElem hi, Rep.mono e1 _ _ q2⟩
theorem js_tup {a : Addr} {vs : List V} {xs : List D} (hl : SqT K F a vs) (hr : Reps K F xs vs) : JS K F (Itt K a) xs := by
  have hn := hr.length
  refine ⟨fun i H e hi => ?_, fun i H e hi => ?_, fun i H v H' F1 e1 e2 hi hy => ?_⟩
  · exact ⟨vs, vs[i]'(by omega), Evl.ex_t e hl, List.getElem?_eq_getElem (by omega)⟩
  · exact ⟨vs, Evl.ex_t e hl, by omega⟩
  · obtain ⟨e, f⟩ := hy
    subst e
    have g := f vs (Evl.ex_t (e1.trans e2) hl)
    obtain ⟨w, q1, q2⟩ := hr.get (i := i) (e := xs[i]) (List.getElem?_eq_getElem hi)
    rw [g] at q1; cases q1
    exact ⟨F1, xs[i], Adv.refl e2, List.getElem?_eq_getElem hi, Rep.mono e1 _ _ q2⟩
theorem ei_list {m : Res (List α)} (h : EvX K W env te m) : EvI K W env (iList K te) m := fun F0 H0 F H σ R S k => by
  refine h F0 H0 F H σ _ S ?_
  cases m with
  | ok xs =>
    intro v F1 H1 a r
    obtain ⟨p, vs, rfl, h1, h2⟩ := r
    exact ⟨p, rfl, ⟨vs, sq_ex a.in_ h1⟩, k _ F1 H1 a (js_list (Evl.sq_of h1) h2)⟩
  | exc c => exact k
  | stuck => exact k.elim
theorem ei_tup {m : Res (Tu α)} (h : EvX K W env te m) : EvI K W env (iTup K te) (m.bind fun x => .ok x.xs) := fun F0 H0 F H σ R S k => by
  refine h F0 H0 F H σ _ S ?_
  cases m with
  | ok xs =>
    intro v F1 H1 a r
    obtain ⟨p, vs, rfl, h1, h2⟩ := r
    exact ⟨p, rfl, ⟨vs, Evl.ex_t a.in_ h1⟩, k _ F1 H1 a (js_tup h1 h2)⟩
  | exc c => exact k
  | stuck => exact k.elim
def pyRange (lo hi : Int) : List Int := (List.range (hi - lo).toNat).map fun (i : Nat) => lo + (i : Int)
theorem pyRange_len (lo hi : Int) : (pyRange lo hi).length = (hi - lo).toNat := by simp [pyRange]
theorem pyRange_get {lo hi : Int} {i : Nat} (h : i < (hi - lo).toNat) : (pyRange lo hi)[i]? = some (lo + (i : Int)) := by
  simp [pyRange, h]
theorem js_range {lo hi : Int} : JS K F (Itr lo (hi - lo).toNat) ((pyRange lo hi).map toD) := by
  refine ⟨fun i H e h => ?_, fun i H e h => ?_, fun i H v H' F1 e1 e2 h hy => ?_⟩
  · rw [List.length_map, pyRange_len] at h; exact h
  · rw [List.length_map, pyRange_len] at h; exact h
  · rw [List.length_map, pyRange_len] at h
    obtain ⟨e, q⟩ := hy
    subst e q
    exact ⟨F1, .int (lo + (i : Int)), Adv.refl e2, by rw [List.getElem?_map, pyRange_get h]; rfl, rfl⟩
abbrev okRange (i : Int) : Prop := -(2 ^ 62) ≤ i ∧ i < 2 ^ 62
theorem ei_range1 {m : Res Int} (h : EvX K W env te m) : EvI K W env (iRng1 (tCons te tNil)) (m.bind fun j => .need (okRange j) (.ok (pyRange 0 j))) := fun F0 H0 F H σ R S k => by
  refine h F0 H0 F H σ _ S ?_
  cases m with
  | ok j =>
    intro v F1 H1 a r
    cases (show v = V.int j from r)
    have k : KI K W F H σ R (.need (okRange j) (.ok (pyRange 0 j))) := k
    by_cases c : okRange j
    · rw [Res.need_pos c] at k
      refine ⟨j, rfl, c.1, c.2, k _ F1 H1 a ?_⟩
      have := js_range (K := K) (F := F1) (lo := 0) (hi := j)
      rw [Int.sub_zero] at this
      exact this
    · rw [Res.need_neg c] at k; exact k.elim
  | exc c => exact k
  | stuck => exact k.elim
/-- range(i, j, -1) -/
def pyDown (i j : Int) : List Int := (List.range (i - j).toNat).map fun (a : Nat) => i - (a : Int)
theorem blk_for {S : Type} {wi : TI} {g : TG} {tb : TS} {m : Res (List α)} {fe : α → En → En} {ws : List Nat} (loop : List α → S → Res τ) (k : S → Res τ) (envS : S → En) (s0 : S)
    (L : Lk K W F0 H0 rt PT KP) (hT : PT env) (hi : EvI K W env wi m) (hg : ∀ x, GX K g (toD x) (fe x) ws) (h0 : EnLe env (envS s0)) (hnil : ∀ s, loop [] s = k s)
    (hbody : ∀ F1, Lk K W F1 H0 rt PT KP → (∀ s, Blk K F1 H0 KP Z.nx (envS s) (k s)) → ∀ x r s (N : L2.St → Hp → Prop), (∀ s', Blk K F1 H0 KP N (envS s') (loop r s')) →
      Blk K F1 H0 KP (tb { Z with nx := N, ct := N, bk := Z.nx }) (fe x (envS s)) (loop (x :: r) s))
    (hrest : ∀ s, Blk K F0 H0 KP Z.nx (envS s) (k s)) : Blk K F0 H0 KP (tFor wi g tb Z) env (m.bind fun xs => loop xs s0) := fun F H σ S h => by
  refine hi F0 H0 F H σ _ S (L.ki hT S h fun xs J F1 H1 e1 a1 js h1 => ?_)
  have S1 := (S.step a1).weak h0
  have S11 : Sl K F1 H0 F1 H1 σ (envS s0) := ⟨⟨Ex.refl _, S1.adv.h, S1.adv.in_, fun p q _ => q⟩, S1.slot, S1.dis, S1.len⟩
  have hB := hbody F1 (L.base S1) (fun s => (hrest s).base S1)
  have hn : (xs.map toD).length = xs.length := List.length_map ..
  refine ⟨fun i m σ H => m = xs.length - i ∧ i ≤ xs.length ∧ ∃ F s, Sl K F1 H0 F H σ (envS s) ∧ KP (loop (xs.drop i) s), ⟨xs.length, rfl, Nat.zero_le _, F1, s0, S11, h1⟩, ?_⟩
  rintro i m σ H ⟨rfl, hle, F, s, S, h⟩
  by_cases hlt : i < xs.length
  · refine .inr ⟨js.go i H (S.adv.f.trans S.ex) (by rw [hn]; exact hlt), fun σ' H' => ∃ F s, Sl K F1 H0 F H' σ' (envS s) ∧ KP (loop (xs.drop (i + 1)) s), fun σ' H' w => ⟨_, by omega, rfl, hlt, w⟩, fun v H' hy => ?_⟩
    obtain ⟨F2, x, a2, ex, rx⟩ := js.yld i H v H' F S.adv.f S.ex (by rw [hn]; exact hlt) hy
    rw [List.getElem?_map, List.getElem?_eq_getElem hlt] at ex
    cases ex
    refine hg xs[i] F1 H0 F2 H' σ (envS s) v _ (S.step a2) rx fun σ' S' _ _ => ?_
    have e : xs.drop i = xs[i] :: xs.drop (i + 1) := List.drop_eq_getElem_cons hlt
    rw [e] at h
    exact hB xs[i] (xs.drop (i + 1)) s _ (fun s' F H σ S h => ⟨F, s', S, h⟩) F2 H' σ' S' h
  · have e : xs.drop i = [] := List.drop_of_length_le (by omega)
    rw [e, hnil] at h
    exact .inl ⟨js.stop i H (S.adv.f.trans S.ex) (by rw [hn]; omega), (hrest s).base S1 F H σ S h⟩
theorem blk_while {S : Type} {tb : TS} (loop : Nat → S → Res τ) (test : S → Res Bool) (body : Nat → S → Res τ) (k : S → Res τ) (envS : S → En) (s0 : S) (fuel : Nat)
    (L : Lk K W F0 H0 rt PT KP) (hT : ∀ s, PT (envS s)) (h0 : EnLe env (envS s0)) (hc : ∀ s, EvT K W (envS s) tt (test s)) (l0 : ∀ s, loop 0 s = .stuck) (l1 : ∀ n s, loop (n + 1) s = (test s).bind fun b => cond b (body n s) (k s))
    (hbody : ∀ n s (N : L2.St → Hp → Prop), (∀ s', Blk K F0 H0 KP N (envS s') (loop n s')) → Blk K F0 H0 KP (tb { Z with nx := N, ct := N, bk := Z.nx }) (envS s) (body n s))
    (hrest : ∀ s, Blk K F0 H0 KP Z.nx (envS s) (k s)) : Blk K F0 H0 KP (tWhile tt tb Z) env (loop fuel s0) := fun F H σ S h => by
  refine ⟨fun n σ H => ∃ F s, Sl K F0 H0 F H σ (envS s) ∧ KP (loop n s), ⟨fuel, F, s0, S.weak h0, h⟩, ?_⟩
  rintro n σ H ⟨F, s, S, h⟩
  cases n with
  | zero => rw [l0] at h; exact (L.no h).elim
  | succ n =>
    rw [l1] at h
    refine hc s F0 H0 F H σ _ S (L.kt (hT s) S h fun b F1 H1 e1 a1 h1 => ?_)
    cases b with
    | true =>
      show ∃ N, _
      exact ⟨fun σ' H' => ∃ F s, Sl K F0 H0 F H' σ' (envS s) ∧ KP (loop n s), fun σ' H' w => ⟨n, Nat.lt_succ_self n, w⟩, hbody n s _ (fun s' F H σ S h => ⟨F, s', S, h⟩) F1 H1 σ (S.step a1) h1⟩
    | false => exact hrest s F1 H1 σ (S.step a1) h1

/-! ### comprehensions -/
def compL {α β : Type} (t : α → Res Bool) (e : α → Res β) : List α → Res (List β)
  | [] => .ok []
  | x :: r => (t x).bind fun b => cond b ((e x).bind fun y => (compL t e r).bind fun ys => .ok (y :: ys)) (compL t e r)
def mapL {α β : Type} (e : α → Res β) : List α → Res (List β)
  | [] => .ok []
  | x :: r => (e x).bind fun y => (mapL e r).bind fun ys => .ok (y :: ys)
end
end Mi
set_option maxHeartbeats 1000000
namespace Mi
open PySem PySem.Spec L2
open Evl (Ex)
section
variable {K : PySem.W.Frag} {W : WX} {F0 H0 F H F' H' F1 : Hp} {rt : VK} {PT : En → Prop} {env env' : En} {α β γ τ : Type} [ToD α] [ToD β] [ToD γ] [ToD τ] [ToR τ] {KP : Res τ → Prop} {te ta tb tc : TE} {tt : TT} {Z : Ends} {t u : TS} {T : L2.St → Hp → Prop} {σ : L2.St}

/-! ### comprehensions -/
theorem Sl.updN (S : Sl K F0 H0 F H σ env) {p : Addr} {o : HO} (hp : F p = none) (h0 : H0 p = none) (hn : ∀ (i : Nat) (sk : Sk), env[i]? = some (some sk) → sk.own = true → σ[i]? ≠ some (some (V.ref p))) : Sl K F0 H0 F (upd H p o) σ env := by
  refine ⟨⟨S.adv.f, fun a u q => ?_, fun a u q => ?_, S.adv.out⟩, fun j sk q => ?_, S.dis, S.len⟩
  · rw [upd_ne (ne_of_none q h0)]; exact S.adv.h a u q
  · rw [upd_ne (ne_of_none q hp)]; exact S.adv.in_ a u q
  · obtain ⟨w, h1, h2⟩ := S.slot j sk q
    exact ⟨w, h1, h2.updH fun o2 zz => hn j sk q o2 (by rw [h1, zz])⟩
/-- the names of a comprehension are forgotten -/
def unset : List Nat → En → En
  | [], e => e
  | i :: is, e => (unset is e).set i none
theorem unset_len (e : En) : ∀ ws : List Nat, (unset ws e).length = e.length
  | [] => rfl
  | i :: is => by show ((unset is e).set i none).length = _; rw [List.length_set, unset_len e is]
theorem unset_get {e : En} {j : Nat} {sk : Sk} : ∀ {ws : List Nat}, (unset ws e)[j]? = some (some sk) → e[j]? = some (some sk) ∧ j ∉ ws
  | [], h => ⟨h, by simp⟩
  | i :: is, h => by
    have h : ((unset is e).set i none)[j]? = some (some sk) := h
    rcases set_get h with ⟨_, z⟩ | ⟨z, h⟩
    · cases z
    · obtain ⟨h1, h2⟩ := unset_get h
      exact ⟨h1, by simp only [List.mem_cons, not_or]; exact ⟨fun e => z e.symm, h2⟩⟩
theorem Sl.wipe (S : Sl K F0 H0 F H σ env) (ws : List Nat) : Sl K F0 H0 F H (L2.wipe σ ws) (unset ws env) := by
  refine ⟨S.adv, fun i sk e => ?_, fun i j xs ys p hij e1 e2 o1 o2 h1 => ?_, by rw [wipe_length, unset_len]; exact S.len⟩
  · obtain ⟨e, hn⟩ := unset_get e
    rw [wipe_out hn]; exact S.slot i sk e
  · obtain ⟨e1, n1⟩ := unset_get e1
    obtain ⟨e2, n2⟩ := unset_get e2
    rw [wipe_out n1] at h1
    rw [wipe_out n2]
    exact S.dis i j xs ys p hij e1 e2 o1 o2 h1
theorem wipe_in {j : Nat} : ∀ {ws : List Nat}, j ∈ ws → j < σ.length → (L2.wipe σ ws)[j]? = some none
  | [], h, _ => by cases h
  | i :: is, h, hl => by
    show ((L2.wipe σ is).set i none)[j]? = some none
    by_cases e : i = j
    · subst e
      rw [List.getElem?_set_self (by rw [wipe_length]; exact hl)]
    · rw [List.getElem?_set_ne e]
      rcases List.mem_cons.mp h with z | z
      · exact absurd z.symm e
      · exact wipe_in z hl
theorem wipe_eq {σ' : L2.St} {ws : List Nat} (hl : σ'.length = (L2.wipe σ ws).length) (ho : ∀ j, j ∉ ws → σ'[j]? = (L2.wipe σ ws)[j]?) : L2.wipe σ' ws = L2.wipe σ ws := by
  rw [wipe_length] at hl
  apply List.ext_getElem?
  intro j
  by_cases hj : j ∈ ws
  · by_cases hlt : j < σ.length
    · rw [wipe_in hj hlt, wipe_in hj (by rw [hl]; exact hlt)]
    · rw [List.getElem?_eq_none (by rw [wipe_length]; omega), List.getElem?_eq_none (by rw [wipe_length]; omega)]
  · rw [wipe_out hj, ho j hj]
abbrev WT : WX := fun _ _ _ _ => True
theorem ev_comp {wi : TI} {g : TG} {m : Res (List α)} {fe : α → En → En} {ws : List Nat} {tst : α → Res Bool} {el : α → Res β} (hi : EvI K W env wi m) (hg : ∀ x, GX K g (toD x) (fe x) ws)
    (ht : ∀ x, EvT K WT (fe x (unset ws env)) tt (tst x)) (he : ∀ x, EvX K WT (fe x (unset ws env)) te (el x)) :
    EvN K W env (tLc wi g tt te ws) (m.bind fun xs => .need (xs.length ≤ 16777216) (compL tst el xs)) := fun F0 H0 F H σ Q S k => by
  refine hi F0 H0 F H σ _ S ?_
  cases m with
  | exc c => exact k
  | stuck => exact k.elim
  | ok xs =>
  intro J F1 H1 a1 js D hD
  have k : KN K W F H σ Q (.need (xs.length ≤ 16777216) (compL tst el xs)) := k
  by_cases c : xs.length ≤ 16777216
  case neg => rw [Res.need_neg c] at k; exact k.elim
  rw [Res.need_pos c] at k
  have hn : (xs.map toD).length = xs.length := List.length_map ..
  have hDF : F1 D = none := none_of_ex a1.in_ hD
  have hDH : H D = none := Evl.fresh_back a1.h hD
  have hD0 : H0 D = none := Evl.fresh_back S.adv.h hDH
  -- the new list is none of the slots'
  have hne : ∀ (i : Nat) (sk : Sk), env[i]? = some (some sk) → sk.own = true → σ[i]? ≠ some (some (V.ref D)) := fun i sk e ho z => by
    obtain ⟨v, e1, q⟩ := S.slot i _ e
    obtain ⟨p, o, rfl, _, _, q⟩ := q.at ho
    rw [e1] at z; cases z
    rw [hDH] at q; cases q
  have S1 : Sl K F0 H0 F1 (upd H1 D (.lst [])) σ env := (S.step a1).updN hDF hD0 hne
  refine ⟨fun i n H' => n = xs.length - i ∧ i ≤ xs.length ∧ ∃ F' acc vs, Sl K F0 H0 F' H' σ env ∧ Adv F H F' H' ∧ Ex F1 F' ∧ F' D = none ∧ H' D = some (.lst vs) ∧ Reps K F' (acc.map toD) vs ∧ acc.length ≤ i ∧
    (∀ ys, compL tst el (xs.drop i) = .ok ys → compL tst el xs = .ok (acc ++ ys)) ∧ (∀ c, compL tst el (xs.drop i) = .exc c → compL tst el xs = .exc c) ∧ (compL tst el (xs.drop i) = .stuck → compL tst el xs = .stuck),
    ⟨xs.length, rfl, Nat.zero_le _, F1, ([] : List β), [], S1, a1.trans (Adv.newO a1.in_ hD), Ex.refl _, hDF, upd_same, (show Reps K F1 [] [] from rfl), Nat.le_refl _, fun ys h => h, fun c h => h, fun h => h⟩, ?_⟩
  rintro i n H2 ⟨rfl, hle, F2, acc, vs, S2, a2, x2, f2, h2, r2, l2, q1, q2, q3⟩
  by_cases hlt : i < xs.length
  · refine .inr ⟨js.go i H2 (x2.trans a2.in_) (by rw [hn]; exact hlt), fun H' => (i + 1 ≤ xs.length ∧ ∃ F' acc vs, Sl K F0 H0 F' H' σ env ∧ Adv F H F' H' ∧ Ex F1 F' ∧ F' D = none ∧ H' D = some (.lst vs) ∧ Reps K F' (acc.map toD) vs ∧ acc.length ≤ i + 1 ∧
      (∀ ys, compL tst el (xs.drop (i + 1)) = .ok ys → compL tst el xs = .ok (acc ++ ys)) ∧ (∀ c, compL tst el (xs.drop (i + 1)) = .exc c → compL tst el xs = .exc c) ∧ (compL tst el (xs.drop (i + 1)) = .stuck → compL tst el xs = .stuck)),
      fun H' w => ⟨_, by omega, rfl, w⟩, fun v H3 hy => ?_⟩
    obtain ⟨F3, x, a3, ex, rx⟩ := js.yld i H2 v H3 F2 x2 a2.in_ (by rw [hn]; exact hlt) hy
    rw [List.getElem?_map, List.getElem?_eq_getElem hlt] at ex
    cases ex
    have e : xs.drop i = xs[i] :: xs.drop (i + 1) := List.drop_eq_getElem_cons hlt
    rw [e] at q1 q2 q3
    have S3 := S2.step a3
    refine hg xs[i] F0 H0 F3 H3 _ _ v _ (S3.wipe ws) rx fun σ' S' sl so => ⟨wipe_eq sl so, ?_⟩
    have f3 : F3 D = none := a3.out D f2 (by rw [h2]; simp)
    refine ht xs[i] F0 H0 F3 H3 σ' _ S' ?_
    cases qt : tst xs[i] with
    | exc c => exact fun _ _ _ => trivial
    | stuck =>
      have := q3 (by show (tst xs[i]).bind _ = _; rw [qt]; rfl)
      rw [this] at k; exact k.elim
    | ok b =>
    intro F4 H4 a4
    have f4 : F4 D = none := a4.out D f3 (by rw [a3.h _ _ h2]; simp)
    cases b with
    | false =>
      show i + 1 ≤ xs.length ∧ _
      refine ⟨hlt, F4, acc, vs, S3.step a4, (a2.trans a3).trans a4, (x2.trans a3.f).trans a4.f, f4, a4.h _ _ (a3.h _ _ h2), Reps.mono (a3.trans a4).f _ _ r2, by omega, fun ys h => ?_, fun c h => ?_, fun h => ?_⟩
      · exact q1 ys (by show (tst xs[i]).bind _ = _; rw [qt]; exact h)
      · exact q2 c (by show (tst xs[i]).bind _ = _; rw [qt]; exact h)
      · exact q3 (by show (tst xs[i]).bind _ = _; rw [qt]; exact h)
    | true =>
      show te σ' H4 _
      refine he xs[i] F0 H0 F4 H4 σ' _ (S'.step a4) ?_
      cases qe : el xs[i] with
      | exc c => exact fun _ _ _ => trivial
      | stuck =>
        have := q3 (by show (tst xs[i]).bind _ = _; rw [qt]; show (el xs[i]).bind _ = _; rw [qe]; rfl)
        rw [this] at k; exact k.elim
      | ok y =>
      intro w F5 H5 a5 r5
      have f5 : F5 D = none := a5.out D f4 (by rw [a4.h _ _ (a3.h _ _ h2)]; simp)
      have h5 : H5 D = some (.lst vs) := a5.h _ _ (a4.h _ _ (a3.h _ _ h2))
      have ad := ((a2.trans a3).trans a4).trans a5
      refine ⟨vs, h5, by rw [sizeLine_eq, ← r2.length, List.length_map]; omega, hlt, F5, acc ++ [y], vs ++ [w], ((S3.step a4).step a5).updN f5 hD0 hne, ⟨ad.f, fun a u q => ?_, fun a u q => ?_, ad.out⟩,
        ((x2.trans a3.f).trans a4.f).trans a5.f, f5, upd_same, ?_, by rw [List.length_append]; simp; omega, fun ys h => ?_, fun c h => ?_, fun h => ?_⟩
      · rw [upd_ne (ne_of_none q hDH)]; exact ad.h a u q
      · rw [upd_ne (ne_of_none q f5)]; exact ad.in_ a u q
      · rw [List.map_append]
        exact Reps.append (Reps.mono ((a3.trans a4).trans a5).f _ _ r2) (Reps.one r5)
      · rw [q1 (y :: ys) (by show (tst xs[i]).bind _ = _; rw [qt]; show (el xs[i]).bind _ = _; rw [qe]; show (compL tst el _).bind _ = _; rw [h]; rfl)]
        rw [List.append_assoc]; rfl
      · exact q2 c (by show (tst xs[i]).bind _ = _; rw [qt]; show (el xs[i]).bind _ = _; rw [qe]; show (compL tst el _).bind _ = _; rw [h]; rfl)
      · exact q3 (by show (tst xs[i]).bind _ = _; rw [qt]; show (el xs[i]).bind _ = _; rw [qe]; show (compL tst el _).bind _ = _; rw [h]; rfl)
  · have e : xs.drop i = [] := List.drop_of_length_le (by omega)
    rw [e] at q1
    have := q1 [] rfl
    rw [List.append_nil] at this
    rw [this] at k
    exact .inl ⟨js.stop i H2 (x2.trans a2.in_) (by rw [hn]; omega), k D vs F2 H2 a2 hDH f2 h2 r2⟩
theorem et_yes : EvT K W env tYes (.ok true) := fun F0 H0 F H σ Q S k => k F H (Adv.refl S.ex)

/-! ### built-in defs -/
theorem cx_len : CrX K (fun xs H Q => ∃ p ys, xs = [.ref p] ∧ (SqL K H p ys ∨ SqT K H p ys) ∧ Q (.int ys.length) H) (fun (p : List α × Unit) => .ok (p.1.length : Int)) := fun F H x vs Q e r k => by
  obtain ⟨v, r1, rfl, ⟨a, ws, rfl, hl, hr⟩, h2⟩ := r
  cases (show r1 = [] from h2)
  refine ⟨a, ws, rfl, .inl (sq_ex e hl), ?_⟩
  rw [← hr.length, List.length_map]
  exact k _ F H (Adv.refl e) rfl
theorem ev_lenO {j : Nat} {xs : List α} (h : env[j]? = some (some (.ow (xs.map toD)))) : EvX K W env (tCB (fun xs H Q => ∃ p ys, xs = [V.ref p] ∧ (SqL K H p ys ∨ SqT K H p ys) ∧ Q (.int ys.length) H) (tCons (tVar j) tNil)) (.ok (xs.length : Int)) := fun F0 H0 F H σ Q S k => by
  obtain ⟨v, e, p, vs, rfl, h0, hf, hp, hr⟩ := S.slot j _ h
  refine ⟨_, e, p, vs, rfl, .inl (.inl (.inl hp)), ?_⟩
  rw [← hr.length, List.length_map]
  exact k _ F H (Adv.refl S.ex) rfl
theorem cx_abs : CrX K (fun xs H Q => ∃ i, xs = [.int i] ∧ Q (.int (if i < 0 then -i else i)) H) (fun (p : Int × Unit) => .ok (p.1.natAbs : Int)) := fun F H x vs Q e r k => by
  obtain ⟨v, r1, rfl, h1, h2⟩ := r
  cases (show r1 = [] from h2); cases (show v = V.int x.1 from h1)
  refine ⟨x.1, rfl, ?_⟩
  have q : (if x.1 < 0 then -x.1 else x.1) = (x.1.natAbs : Int) := by split <;> omega
  rw [q]
  exact k _ F H (Adv.refl e) rfl
theorem cx_max : CrX K (fun xs H Q => ∃ i j, xs = [.int i, .int j] ∧ Q (.int (if j > i then j else i)) H) (fun (p : Int × Int × Unit) => .ok (max p.1 p.2.1)) := fun F H x vs Q e r k => by
  obtain ⟨v, r1, rfl, h1, w, r2, rfl, h2, h3⟩ := r
  cases (show r2 = [] from h3); cases (show v = V.int x.1 from h1); cases (show w = V.int x.2.1 from h2)
  refine ⟨x.1, x.2.1, rfl, ?_⟩
  have q : (if x.2.1 > x.1 then x.2.1 else x.1) = max x.1 x.2.1 := by split <;> omega
  rw [q]
  exact k _ F H (Adv.refl e) rfl
theorem cx_int : CrX K (fun xs H Q => (∃ i, xs = [.int i] ∧ Q (.int i) H) ∨ ∃ k, xs = [.bl k] ∧ Q (.int (if k then 1 else 0)) H) (fun (p : Int × Unit) => .ok p.1) := fun F H x vs Q e r k => by
  obtain ⟨v, r1, rfl, h1, h2⟩ := r
  cases (show r1 = [] from h2); cases (show v = V.int x.1 from h1)
  exact .inl ⟨x.1, rfl, k _ F H (Adv.refl e) rfl⟩
/-- the greatest, the least of a list that is not empty -/
def lmax : List Int → Int
  | [] => 0
  | x :: r => r.foldl max x
def lmin : List Int → Int
  | [] => 0
  | x :: r => r.foldl min x
theorem foldl_max_ge (r : List Int) : ∀ x, x ≤ r.foldl max x ∧ ∀ y ∈ r, y ≤ r.foldl max x := by
  induction r with
  | nil => intro x; exact ⟨Int.le_refl _, fun y h => by cases h⟩
  | cons a r ih =>
    intro x
    obtain ⟨h1, h2⟩ := ih (max x a)
    refine ⟨by have : x ≤ max x a := Int.le_max_left ..; exact Int.le_trans this h1, fun y hy => ?_⟩
    rcases List.mem_cons.mp hy with rfl | hy
    · exact Int.le_trans (Int.le_max_right ..) h1
    · exact h2 y hy
theorem foldl_max_mem (r : List Int) : ∀ x, r.foldl max x = x ∨ r.foldl max x ∈ r := by
  induction r with
  | nil => intro x; exact .inl rfl
  | cons a r ih =>
    intro x
    rcases ih (max x a) with h | h
    · show List.foldl max (max x a) r = x ∨ List.foldl max (max x a) r ∈ _
      rw [h]
      by_cases c : x ≤ a
      · rw [Int.max_eq_right c]; exact .inr List.mem_cons_self
      · rw [Int.max_eq_left (by omega)]; exact .inl rfl
    · exact .inr (List.mem_cons_of_mem _ h)
theorem lmax_spec {ns : List Int} {m : Int} (h1 : m ∈ ns) (h2 : ∀ y ∈ ns, y ≤ m) : m = lmax ns := by
  cases ns with
  | nil => cases h1
  | cons x r =>
    show m = r.foldl max x
    obtain ⟨g1, g2⟩ := foldl_max_ge r x
    have a : m ≤ r.foldl max x := by
      rcases List.mem_cons.mp h1 with rfl | h
      · exact g1
      · exact g2 m h
    have b : r.foldl max x ≤ m := by
      rcases foldl_max_mem r x with e | e
      · rw [e]; exact h2 x List.mem_cons_self
      · exact h2 _ (List.mem_cons_of_mem _ e)
    omega
theorem cx_lmax : CrX K (rMax K) (fun (p : List Int × Unit) => .need (0 < p.1.length) (.ok (lmax p.1))) := fun F H x vs Q e r k => by
  obtain ⟨v, r1, rfl, ⟨a, ws, rfl, hl, hr⟩, h2⟩ := r
  cases (show r1 = [] from h2)
  have e2 : ws = x.1.map V.int := Reps.ints hr
  subst e2
  by_cases c : 0 < x.1.length
  · dsimp only at k
    rw [Res.need_pos c] at k
    refine ⟨a, x.1, rfl, sq_ex e hl, c, fun m h1 h2 => ?_⟩
    rw [lmax_spec h1 h2]
    exact k _ F H (Adv.refl e) rfl
  · dsimp only at k; rw [Res.need_neg c] at k; exact k.elim
theorem cx_sum : CrX K (rSum K) (fun (p : List Int × Unit) => .ok p.1.sum) := fun F H x vs Q e r k => by
  obtain ⟨v, r1, rfl, ⟨a, ws, rfl, hl, hr⟩, h2⟩ := r
  cases (show r1 = [] from h2)
  have e2 : ws = x.1.map V.int := Reps.ints hr
  subst e2
  exact ⟨a, x.1, rfl, sq_ex e hl, k _ F H (Adv.refl e) rfl⟩
theorem cx_all : CrX K (rAll K) (fun (p : List Bool × Unit) => .ok (p.1.all id)) := fun F H x vs Q e r k => by
  obtain ⟨v, r1, rfl, ⟨a, ws, rfl, hl, hr⟩, h2⟩ := r
  cases (show r1 = [] from h2)
  have e2 : ws = x.1.map V.bl := Reps.bls hr
  subst e2
  exact ⟨a, x.1, rfl, sq_ex e hl, k _ F H (Adv.refl e) rfl⟩
/-- list(xs): a new list -/
theorem en_list {m : Res (List α)} (h : EvX K W env te m) : EvN K W env (tCB (fun xs H Q => ∃ p ys, xs = [V.ref p] ∧ (SqL K H p ys ∨ SqT K H p ys) ∧ ∀ l, H l = none → Q (.ref l) (upd H l (.lst ys))) (tCons te tNil)) m := fun F0 H0 F H σ Q S k => by
  refine h F0 H0 F H σ _ S ?_
  cases m with
  | ok xs =>
    intro v F1 H1 a r
    obtain ⟨p, vs, rfl, h1, h2⟩ := r
    exact ⟨p, vs, rfl, .inl (sq_ex a.in_ h1), fun l hl => k l vs F1 _ (a.trans (Adv.newO a.in_ hl)) (Evl.fresh_back a.h hl) (none_of_ex a.in_ hl) upd_same h2⟩
  | exc c => exact k
  | stuck => exact k.elim
/-- tuple(xs) of a list -/
theorem ev_tupleL {m : Res (List α)} (h : EvX K W env te m) : EvX K W env (tCB (fun xs H Q => ∃ p ys, xs = [V.ref p] ∧ ((SqL K H p ys ∧ ∀ l, H l = none → Q (.ref l) (upd H l (.tup ys))) ∨ (SqT K H p ys ∧ Q (.ref p) H))) (tCons te tNil)) (m.bind fun x => .ok (Tu.mk x)) := fun F0 H0 F H σ Q S k => by
  refine h F0 H0 F H σ _ S ?_
  cases m with
  | ok xs =>
    intro v F1 H1 a r
    obtain ⟨p, vs, rfl, h1, h2⟩ := r
    refine ⟨p, vs, rfl, .inl ⟨sq_ex a.in_ h1, fun l hl => ?_⟩⟩
    have a2 : Adv F1 H1 (upd F1 l (.tup vs)) (upd H1 l (.tup vs)) := Adv.new a.in_ hl
    exact k _ _ _ (a.trans a2) ⟨l, vs, rfl, .inl (.inl upd_same), Reps.mono a2.f _ _ h2⟩
  | exc c => exact k
  | stuck => exact k.elim
/-! ### isinstance of data -/
def tyName : D → String
  | .non => "NoneType" | .bl _ => "bool" | .int _ => "int" | .str _ => "str" | .ty _ => "type" | .tup _ => "tuple" | .lst _ => "list" | .obj _ _ _ => "object" | .ro _ => "list" | .dct _ _ => "dict"
def D.plain : D → Bool
  | .ty _ => false | .obj _ _ _ => false | .ro _ => false | .dct _ _ => false | _ => true
theorem tyx_of {x : D} {v : V} (h : Rep K F x v) (e : Ex F H) (p : x.plain = true) : TyX K H v (.type (tyName x)) := by
  cases x with
  | non => rw [show v = V.non from h]; exact .base .non
  | bl b => rw [show v = V.bl b from h]; exact .base (.bl b)
  | int b => rw [show v = V.int b from h]; exact .base (.int b)
  | str b => rw [show v = V.str b from h]; exact .base (.str b)
  | ty b => cases p
  | obj c ks ds => cases p
  | ro ds => cases p
  | dct ks ds => cases p
  | lst ds =>
    obtain ⟨a, vs, rfl, hl, _⟩ := h
    rcases sq_ex e hl with (q | ⟨o, q⟩) | ⟨o, its, n, q1, q2, _⟩
    · exact .base (.lst q)
    · exact .base (.frz q)
    · exact .kList q1 q2
  | tup ds =>
    obtain ⟨a, vs, rfl, hl, _⟩ := h
    rcases Evl.ex_t e hl with (q | ⟨o, q⟩) | ⟨o, its, n, q1, q2, _⟩
    · exact .base (.tup q)
    · exact .fTuple q
    · exact .kTuple q1 q2
/-- isinstance(x, T), T a built-in class, x any data but objects -/
def isI (n : String) (x : D) : Bool := tyName x == n || (n == "int" && tyName x == "bool")
def isiOk (n : String) : Prop := kitB "NoneType" n = some ("NoneType" == n) ∧ kitB "bool" n = some ("bool" == n || n == "int") ∧ kitB "int" n = some ("int" == n) ∧ kitB "str" n = some ("str" == n) ∧ kitB "tuple" n = some ("tuple" == n) ∧ kitB "list" n = some ("list" == n)
theorem ev_isi {n : String} {m : Res α} (hn : isiOk n) (h : EvX K W env te m) : EvX K W env (tCB (rIsi K) (tCons te (tCons (tC (.ty n)) tNil))) (m.bind fun x => .need ((toD x).plain = true) (.ok (isI n (toD x)))) := fun F0 H0 F H σ Q S k => by
  refine h F0 H0 F H σ _ S (KE.cut S.ex k fun x v F1 H1 e1 a1 r1 k1 => ?_)
  by_cases c : (toD x).plain = true
  · rw [Res.need_pos c] at k1
    refine ⟨v, .ty n, _, _, isI n (toD x), rfl, .ty n, tyx_of r1 a1.in_ c, ?_, k1 _ F1 H1 (Adv.refl a1.in_) rfl⟩
    refine kit_ty ?_
    obtain ⟨h1, h2, h3, h4, h5, h6⟩ := hn
    revert c
    generalize toD x = y
    intro c
    cases y with
    | non => rw [show tyName .non = "NoneType" from rfl, h1]; simp [isI, tyName]
    | bl b => rw [show tyName (.bl b) = "bool" from rfl, h2]; simp [isI, tyName]
    | int b => rw [show tyName (.int b) = "int" from rfl, h3]; simp [isI, tyName]
    | str b => rw [show tyName (.str b) = "str" from rfl, h4]; simp [isI, tyName]
    | tup b => rw [show tyName (.tup b) = "tuple" from rfl, h5]; simp [isI, tyName]
    | lst b => rw [show tyName (.lst b) = "list" from rfl, h6]; simp [isI, tyName]
    | ty b => cases c
    | obj a b d => cases c
    | ro a => cases c
    | dct a b => cases c
  · rw [Res.need_neg c] at k1; exact k1.elim
theorem isi_int : isiOk "int" := by unfold isiOk; decide +kernel
theorem isi_bool : isiOk "bool" := by unfold isiOk; decide +kernel
theorem isi_list : isiOk "list" := by unfold isiOk; decide +kernel
theorem isi_tuple : isiOk "tuple" := by unfold isiOk; decide +kernel
/-! ### errors -/
/-- what a body of a try gives: it falls through, or it hands back -/
inductive Fall (S τ : Type) where
  | go (s : S) | back (x : τ)
instance {S τ : Type} [ToR τ] : ToR (Fall S τ) := ⟨fun K x v H0 F H => match x with | .go _ => True | .back y => ToR.fr K y v H0 F H⟩
instance {S τ : Type} [ToR τ] [DR τ] : DR (Fall S τ) := ⟨fun K x v H0 F H => match x with | .go _ => trivial | .back y => DR.tr K y v H0 F H⟩
instance {S τ : Type} [ToD τ] : ToD (Fall S τ) := ⟨fun x => match x with | .go _ => .obj Str.empty [] [.non] | .back x => ToD.d x⟩
theorem no_go {S : Type} {s : S} {v : V} (h : Rep K F (toD (Fall.go s : Fall S τ)) v) : False := by
  obtain ⟨a, dx, vs, _, _, h3, h4⟩ := h
  obtain ⟨w, r, e, _⟩ := h4
  subst e
  simp at h3
/-- the classes of the errors: which they are, which is under which -/
structure Cls (K : PySem.W.Frag) (cs : List Str) (sub : Str → Str → Bool) : Prop where
  exc : ∀ c ∈ cs, ExcC K (He.ga K c)
  exm : ∀ c ∈ cs, ∀ d ∈ cs, PySem.W.exmOne K (.ref (He.ga K c)) (.ref (He.ga K d)) = some (sub c d)
  kit : ∀ c ∈ cs, ∀ d ∈ cs, PySem.W.kitOne K (.ref (He.ga K c)) (.ref (He.ga K d)) = some (sub c d)
  kiv : ∀ c ∈ cs, PySem.W.kitOne K (.ref (He.ga K c)) (.type "ValueError") = some true
/-- the outcome of: try body, except X -/
def tryR {S τ : Type} (known : Str → Bool) (sub : Str → Bool) (m : Res (Fall S τ)) (rest : S → Res τ) (hd : Str → Res τ) : Res τ := match m with
  | .ok (.go s) => rest s
  | .ok (.back x) => .ok x
  | .exc c => if known c = true then (if sub c = true then hd c else .exc c) else .stuck
  | .stuck => .stuck
/-- isinstance(e, C), isinstance(e, (C1, C2)) in the suite -/
def rIsE2 (K : PySem.W.Frag) (a : Addr) (cls : Value) (d : Option Addr) : List V → Hp → VK → Prop := fun xs H Q => ∃ (Dc : Addr) (c : V) (cv : Value) (b : Bool), cls = .ref Dc ∧ d = none ∧ ExcC K Dc ∧ xs = [.ref a, c] ∧ (∀ u, RelV c u → u = cv) ∧ PySem.W.kitOne K (.ref Dc) cv = some b ∧ Q (.bl b) H
def rIsET (K : PySem.W.Frag) (a : Addr) (cls : Value) (d : Option Addr) : List V → Hp → VK → Prop := fun xs H Q => ∃ (Dc tp : Addr) (cl : List V) (us : List Value) (b : Bool), cls = .ref Dc ∧ d = none ∧ ExcC K Dc ∧ xs = [.ref a, .ref tp] ∧ H tp = some (.tup cl) ∧ Paired ClsV cl us ∧ PySem.W.kitAny K (.ref Dc) us = some b ∧ Q (.bl b) H
end

/-! ### a def -/
def enStart (N : List Str) (ds : List D) : En := ds.map (fun x => some (.im x)) ++ List.replicate (N.length - ds.length) none
theorem sl_start {K : PySem.W.Frag} {F H : Hp} {N : List Str} {ds : List D} {vs : List V} (e : Ex F H) (r : Reps K F ds vs) : Sl K F H F H (L2.start N vs) (enStart N ds) := by
  have hl := r.length
  refine ⟨Adv.refl e, fun i sk q => ?_, fun i j xs ys p _ q _ oo _ _ => ?_, by simp [L2.start, enStart, hl]⟩
  · unfold enStart at q
    by_cases c : i < ds.length
    · rw [List.getElem?_append_left (by simpa using c), List.getElem?_map, List.getElem?_eq_getElem c] at q
      cases q
      obtain ⟨v, h1, h2⟩ := r.get (List.getElem?_eq_getElem c)
      refine ⟨v, ?_, h2⟩
      unfold L2.start
      rw [List.getElem?_append_left (by rw [List.length_map]; omega), List.getElem?_map, h1]; rfl
    · rw [List.getElem?_append_right (by simpa using c), List.getElem?_replicate] at q
      split at q <;> cases q
  · unfold enStart at q
    by_cases c : i < ds.length
    · rw [List.getElem?_append_left (by simpa using c), List.getElem?_map, List.getElem?_eq_getElem c] at q
      cases q; cases oo
    · rw [List.getElem?_append_right (by simpa using c), List.getElem?_replicate] at q
      split at q <;> cases q
section
variable {P : Program} {w : World} {K : PySem.W.Frag} {mg : Str → Option Value} {base : Heap} {x qual : Str} {params : Arguments} {body : List Stmt} {scope : Scope} {dvs : List V} {kws : List (Str × V)} {f : Addr} {fd : FuncData}
theorem fn_ok {N ps : List Str} {k : Nat} {β τ : Type} [ToDs β] [ToD τ] [ToR τ] {fM : β → Res τ} (F : FunD K x qual params body scope dvs kws f fd) (S : FnScope N ps scope) (hl : ∀ y : β, (ToDs.ds y).length = ps.length)
    (hbody : ∀ (cdv : Value) (A : Around) (outer : List Env) (s : Shared) (H : Hp) (E : XK), Room k (A.deeper (PyProof.Rows.envOfC qual scope s.heap.objs.size f cdv)) →
      ∃ t, PSs (cxOf (L2.CX P w) P w K mg base N qual scope f cdv A outer s H E) body t ∧
        ∀ (y : β) (F0 H0 : Hp) (Q : VK) (KP : Res τ → Prop), Lk K (fun cls d _ H => E cls d H) F0 H0 Q (fun _ => True) KP → Blk K F0 H0 KP (t { nx := fun _ H' => Q .non H', rt := Q }) (enStart N (ToDs.ds y)) (fM y)) :
    FnOk P w K mg base (L2.CX P w) (k + 1) f fd ps (spM K fM) := by
  refine F.ok S (fun vs H Q E h => ?_) (fun cdv A outer s H vs Q E hr h => ?_)
  · obtain ⟨F, y, _, r, _⟩ := h
    rw [← r.length]; exact hl y
  · obtain ⟨t, h1, h2⟩ := hbody cdv A outer s H E hr
    refine ⟨t, h1, ?_⟩
    obtain ⟨F, y, e, r, q⟩ := h
    refine h2 y F H Q (fun r => KE K (fun cls d _ H => E cls d H) F H [] Q r) ⟨fun z h v F' H' a r _ => h v F' H' a r, fun c F' H' σ env h _ S' => h F' H' S'.adv, fun z => z⟩ F H _ (sl_start e r) q
end
end Mi
set_option maxHeartbeats 1000000
namespace Mi
open PySem PySem.Spec L2
open Evl (Ex)
abbrev W0 (E : XK) : WX := fun cls d _ H => E cls d H
theorem need_mild {α : Type} {p : Prop} {x : α} {c : Str} (h : Res.need p (.ok x) = .exc c) : False := by
  by_cases q : p
  · rw [Res.need_pos q] at h; cases h
  · rw [Res.need_neg q] at h; cases h
/-! what a value of any kind is taken for -/
def D.asInt : D → Res Int
  | .int i => .ok i
  | _ => .stuck
def D.asBool : D → Res Bool
  | .bl i => .ok i
  | _ => .stuck
def D.asStr : D → Res Str
  | .str i => .ok i
  | _ => .stuck
def D.asList : D → Res (List D)
  | .lst i => .ok i
  | _ => .stuck
def D.asTu : D → Res (Tu D)
  | .tup i => .ok ⟨i⟩
  | _ => .stuck
def intsOf : List D → Res (List Int)
  | [] => .ok []
  | .int i :: r => (intsOf r).bind fun s => .ok (i :: s)
  | _ :: _ => .stuck
def D.asInts : D → Res (List Int)
  | .lst i => intsOf i
  | _ => .stuck
theorem asInt_ok : ∀ (x : D) (y : Int), x.asInt = .ok y → toD y = x
  | .int i, y, h => by cases h; rfl
theorem asInt_x (x : D) (c : Str) : x.asInt ≠ .exc c := by cases x <;> intro h <;> cases h
theorem asList_ok : ∀ (x : D) (y : List D), x.asList = .ok y → toD y = x
  | .lst i, y, h => by cases h; show D.lst (i.map fun x => x) = _; rw [List.map_id']
theorem asList_x (x : D) (c : Str) : x.asList ≠ .exc c := by cases x <;> intro h <;> cases h
theorem asTu_ok : ∀ (x : D) (y : Tu D), x.asTu = .ok y → toD y = x
  | .tup i, y, h => by cases h; show D.tup (i.map fun x => x) = _; rw [List.map_id']
theorem asTu_x (x : D) (c : Str) : x.asTu ≠ .exc c := by cases x <;> intro h <;> cases h
theorem intsOf_ok : ∀ (x : List D) (y : List Int), intsOf x = .ok y → y.map D.int = x
  | [], y, h => by cases h; rfl
  | .int i :: r, y, h => by
    have h : (intsOf r).bind (fun s => .ok (i :: s)) = .ok y := h
    cases e : intsOf r with
    | ok z => rw [e] at h; cases h; rw [List.map_cons, intsOf_ok r z e]
    | exc c => rw [e] at h; cases h
    | stuck => rw [e] at h; cases h
theorem intsOf_x : ∀ (x : List D) (c : Str), intsOf x ≠ .exc c
  | [], c, h => by cases h
  | .int i :: r, c, h => by
    have h : (intsOf r).bind (fun s => .ok (i :: s)) = .exc c := h
    cases e : intsOf r with
    | ok z => rw [e] at h; cases h
    | exc c => exact intsOf_x r c e
    | stuck => rw [e] at h; cases h
  | .non :: _, c, h => by cases h
  | .bl _ :: _, c, h => by cases h
  | .str _ :: _, c, h => by cases h
  | .ty _ :: _, c, h => by cases h
  | .tup _ :: _, c, h => by cases h
  | .lst _ :: _, c, h => by cases h
  | .obj _ _ _ :: _, c, h => by cases h
  | .ro _ :: _, c, h => by cases h
  | .dct _ _ :: _, c, h => by cases h
theorem asInts_ok : ∀ (x : D) (y : List Int), x.asInts = .ok y → toD y = x
  | .lst i, y, h => congrArg D.lst (intsOf_ok i y h)
theorem asInts_x : ∀ (x : D) (c : Str), x.asInts ≠ .exc c
  | .lst i, c, h => intsOf_x i c h
  | .non, c, h => by cases h
  | .bl _, c, h => by cases h
  | .int _, c, h => by cases h
  | .str _, c, h => by cases h
  | .ty _, c, h => by cases h
  | .tup _, c, h => by cases h
  | .obj _ _ _, c, h => by cases h
  | .ro _, c, h => by cases h
  | .dct _ _, c, h => by cases h
theorem intsOf_map : ∀ (y : List Int), intsOf (y.map D.int) = .ok y
  | [] => rfl
  | i :: r => by show (intsOf (r.map D.int)).bind _ = _; rw [intsOf_map r]; rfl
theorem asInts_toD (y : List Int) : (toD y).asInts = .ok y := intsOf_map y
/-- xs[lo:hi] -/
def cutL {α : Type} (xs : List α) (lo hi : Option Int) : List α := (xs.drop (HT.sIx xs.length 0 lo)).take (HT.sIx xs.length xs.length hi - HT.sIx xs.length 0 lo)
section
variable {K : PySem.W.Frag} {W : WX} {F0 H0 F H F' H' F1 : Hp} {rt : VK} {PT : En → Prop} {env env' : En} {α β γ τ : Type} [ToD α] [ToD β] [ToD γ] [ToD τ] [ToR τ] {KP : Res τ → Prop} {te ta tb tc : TE} {tt : TT} {Z : Ends} {t u : TS} {T : L2.St → Hp → Prop} {σ : L2.St}
theorem ev_bits {m : Res Int} (h : EvX K W env te m) : EvX K W env (tBits te) (m.bind fun i => .ok ((Builtin.Int.intBits i : Nat) : Int)) := fun F0 H0 F H σ Q S k => by
  refine h F0 H0 F H σ _ S (KE.cut S.ex k fun x v F1 H1 e1 a1 r1 k1 => ?_)
  exact ⟨x, r1, k1 _ F1 H1 (Adv.refl a1.in_) rfl⟩
theorem ev_cast {m : Res D} {f : D → Res α} (hf : ∀ x y, f x = .ok y → toD y = x) (hx : ∀ x c, f x ≠ .exc c) (h : EvX K W env te m) : EvX K W env te (m.bind f) := fun F0 H0 F H σ Q S k => by
  refine h F0 H0 F H σ _ S ?_
  cases m with
  | ok x =>
    intro v F1 H1 a r
    have k : KE K W F H σ Q (f x) := k
    cases e : f x with
    | ok y => rw [e] at k; exact k v F1 H1 a (by rw [hf x y e]; exact r)
    | exc c => exact absurd e (hx x c)
    | stuck => rw [e] at k; exact k.elim
  | exc c => exact k
  | stuck => exact k.elim
theorem blk_if2 {m : Res Bool} {a b : Res τ} (L : Lk K W F0 H0 rt PT KP) (hT : PT env) (hc : EvT K W env tt m) (h1 : Blk K F0 H0 KP (t Z) env a) (h2 : Blk K F0 H0 KP (u Z) env b) :
    Blk K F0 H0 KP (tIfS tt t u Z) env (m.bind fun c => cond c a b) := blk_if L hT hc h1 h2
theorem blk_ifj {S : Type} (envS : S → En) (k : S → Res τ) {m : Res Bool} {a b : Res τ} (L : Lk K W F0 H0 rt PT KP) (hT : PT env) (hc : EvT K W env tt m) (hr : ∀ s, Blk K F0 H0 KP Z.nx (envS s) (k s))
    (h1 : (∀ s, Blk K F0 H0 KP Z.nx (envS s) (k s)) → Blk K F0 H0 KP (t Z) env a) (h2 : (∀ s, Blk K F0 H0 KP Z.nx (envS s) (k s)) → Blk K F0 H0 KP (u Z) env b) :
    Blk K F0 H0 KP (tIfS tt t u Z) env (m.bind fun c => cond c a b) := blk_if L hT hc (h1 hr) (h2 hr)
end
/-- try: .. except X as n: .. -/
def tTry (K : PySem.W.Frag) (c : Value) (i : Nat) (ts : Addr → Value → Option Addr → TS) (W : WX) (tb : WX → TS) : TS := fun D σ H => tb (wAs K c i ts W D) D σ H
section
variable {X : Cx} {x n : Str} {i : Nat} {c : Value} {body suite : List Stmt} {b₀ : Stmt} {np pos pos' : Pos} {tb : WX → TS} {ts : Addr → Value → Option Addr → TS} {Wout : WX}
end
section
variable {K : PySem.W.Frag} {W : WX} {F0 H0 F H F' H' F1 : Hp} {rt : VK} {PT : En → Prop} {env env' : En} {τ : Type} [ToD τ] [ToR τ] {KP : Res τ → Prop} {Z : Ends}
end
section
variable {X : Cx}
end

/-! ### the errors' facts, by one Bool -/
def eqOV (a : Option (Option Value)) (b : Value) : Bool := decide (a = some (some b))
def excCB (K : PySem.W.Frag) (C : Addr) : Bool :=
  He.eqO (PySem.W.findIn K (.ref C) "__getattribute__") (some (some (.builtin "BaseException.__getattribute__"))) && (He.eqO (PySem.W.findIn K (.ref C) "__getattr__") (some none) && (decide (PySem.W.subIn K (.ref C) (.type "BaseException") = some true) && (PySem.W.hasDictIn K C &&
    (He.eqO (PySem.W.findIn K (.ref C) "__class__") (some (some (.builtin "object.__class__"))) && (He.eqO (PySem.W.specialIn K (.builtin "object.__class__") "__get__") (some (some (.builtin "getset_descriptor.__get__"))) &&
      (decide (PySem.W.takesIn K (.builtin "object.__class__") = some true) && decide (PySem.W.mroIn K C (.type "object") = some true)))))))
theorem excC_of {K : PySem.W.Frag} {C : Addr} (h : excCB K C = true) : ExcC K C := by
  obtain ⟨h1, h⟩ := He.ba h
  obtain ⟨h2, h⟩ := He.ba h
  obtain ⟨h3, h⟩ := He.ba h
  obtain ⟨h4, h⟩ := He.ba h
  obtain ⟨h5, h⟩ := He.ba h
  obtain ⟨h6, h⟩ := He.ba h
  obtain ⟨h7, h8⟩ := He.ba h
  exact ⟨He.eqO_ok h1, He.eqO_ok h2, of_decide_eq_true h3, h4, He.eqO_ok h5, He.eqO_ok h6, of_decide_eq_true h7, of_decide_eq_true h8⟩
def clsB (K : PySem.W.Frag) (cs : List Str) (sub : Str → Str → Bool) : Bool := cs.all fun c => excCB K (He.ga K c) && ((cs.all fun d => decide (PySem.W.kitOne K (.ref (He.ga K c)) (.ref (He.ga K d)) = some (sub c d)) && decide (PySem.W.exmOne K (.ref (He.ga K c)) (.ref (He.ga K d)) = some (sub c d))) &&
  decide (PySem.W.kitOne K (.ref (He.ga K c)) (.type "ValueError") = some true))
theorem cls_of {K : PySem.W.Frag} {cs : List Str} {sub : Str → Str → Bool} (h : clsB K cs sub = true) : Cls K cs sub := by
  have h1 : ∀ c ∈ cs, _ := fun c hc => He.ba (List.all_eq_true.mp h c hc)
  refine ⟨fun c hc => excC_of (h1 c hc).1, fun c hc d hd => ?_, fun c hc d hd => ?_, fun c hc => ?_⟩
  · exact of_decide_eq_true (He.ba (List.all_eq_true.mp (He.ba (h1 c hc).2).1 d hd)).2
  · exact of_decide_eq_true (He.ba (List.all_eq_true.mp (He.ba (h1 c hc).2).1 d hd)).1
  · exact of_decide_eq_true (He.ba (h1 c hc).2).2
end Mi
set_option maxHeartbeats 1000000
namespace Mi
open PySem PySem.Spec L2
open Evl (Ex)
theorem walk_end {l : PySem.W.OpenLaw} {n k : Nat} {q : Program} {loose : List Str} {XP : (Str → Option Value) → Heap → Prop} {YP : World → Heap → Prop} {d : PySem.DefRec} {x : Str} {m : Ro Int → Res Bool}
    (hn : l.most = some n) (hn2 : n ≤ sizeLine) (hdf : d.params.defaults = []) (hr : Room k PySem.callerA)
    (F : ∀ (w : World) (mg : Str → Option Value) (fa : Addr) (h : Heap), YP w h → h.Ns mainGlobals mg → mg d.name = some (.ref fa) →
      ∃ (K : PySem.W.Frag) (fd : FuncData), K.In h ∧ (∀ (s : Shared) (u : Value), PySem.BindsTo s fd ⟨[u], []⟩ [(x, u)]) ∧
        ∀ base : Heap, K.In base → base.Ns mainGlobals mg → FnOk l.prog w K mg base (L2.CX l.prog w) k fa fd [x] (spM K (fun (p : Ro Int × Unit) => m p.1)))
    (ht : ∀ ns : List Int, ns.length ≤ n → (∀ i ∈ ns, Builtin.Int.intBits i ≤ 1048576) → m ⟨ns⟩ = .ok true) :
    PySem.W.WalkO q loose XP YP l.row.toRowW d [] (fun f vs => PySem.call f vs) := by
  refine Att.attach_callB hn hdf fun w s₀ s₁ mg mb fa o pm cd doc a vs ns G Y ho hd hcd hmg hobj hints hlen hbits hg => ?_
  obtain ⟨K, fd, KX, hb, hF⟩ := F w mg fa _ Y G.T.g hmg
  refine law_call KX G.T.g G.T.b G.T.builtins G.T.nolimit hg hobj hints (Nat.le_trans hlen hn2) hr hF hb (fun H hO hS => ?_) fun H e s' z => ?_
  · refine ⟨H, (⟨ns⟩, ()), Ex.refl H, ⟨.ref a, [], rfl, ⟨a, ns.map V.int, rfl, hS, Reps.of_ints ns⟩, rfl⟩, ?_⟩
    show KE K _ H H [] _ (m ⟨ns⟩)
    rw [ht ns hlen hbits]
    exact fun v F' H' _ r => r
  · obtain ⟨_, _, _, _, _, _, _, _, _, _, _, _, z⟩ := z
    exact z
end Mi
set_option maxHeartbeats 1000000
namespace Mi
open PySem PySem.Spec L2
open Evl (Ex)
abbrev rLenS (K : PySem.W.Frag) : List V → Hp → VK → Prop := fun xs H Q => ∃ p ys, xs = [.ref p] ∧ (SqL K H p ys ∨ SqT K H p ys) ∧ Q (.int ys.length) H
theorem cr_len {X : Cx} {K : PySem.W.Frag} (h : X.K = K) : CallR X (.builtin "len") (rLenS K) := by
  subst h; exact call_len_seq
theorem cr_ixL {X : Cx} {K : PySem.W.Frag} (h : X.K = K) : IxR X (rIxL K) := by
  subst h; exact ix_list
theorem cr_ixT {X : Cx} {K : PySem.W.Frag} (h : X.K = K) : IxR X (rIxT K) := by
  subst h; exact ix_tup
theorem cr_slL {X : Cx} {K : PySem.W.Frag} (h : X.K = K) : SlR X (rSlL K) := by
  subst h; exact sl_list
section
variable {K : PySem.W.Frag} {W : WX} {F0 H0 F H F' H' F1 : Hp} {rt : VK} {PT : En → Prop} {env env' : En} {α β γ τ : Type} [ToD α] [ToD β] [ToD γ] [ToD τ] [ToR τ] {KP : Res τ → Prop} {te ta tb tc : TE} {tt : TT} {Z : Ends} {t u : TS} {T : L2.St → Hp → Prop} {σ : L2.St}
/-- xs[::-1] -/
theorem en_rev {m : Res (List α)} (h : EvX K W env te m) : EvN K W env (tRevL K te) (m.bind fun xs => .ok xs.reverse) := fun F0 H0 F H σ Q S k => by
  refine h F0 H0 F H σ _ S ?_
  cases m with
  | ok xs =>
    intro v F1 H1 a r
    obtain ⟨p, vs, rfl, h1, h2⟩ := r
    refine ⟨p, vs, rfl, sq_ex a.in_ h1, fun l hl => ?_⟩
    refine k l _ F1 _ (a.trans (Adv.newO a.in_ hl)) (Evl.fresh_back a.h hl) (none_of_ex a.in_ hl) upd_same ?_
    rw [List.map_reverse]
    exact Reps.reverse h2
  | exc c => exact k
  | stuck => exact k.elim
/-- the parts of a text of an error -/
def EvJ (K : PySem.W.Frag) (W : WX) (env : En) (ts : List TE) (N : Nat) (m : Res Unit) : Prop :=
  ∀ F0 H0 F H σ acc (Q : Str → Hp → Prop), Sl K F0 H0 F H σ env → acc.length + N ≤ sizeLine → KE K W F H σ (fun _ H' => ∀ out, Q out H') m → tJs ts acc σ H Q
theorem ej_nil : EvJ K W env [] 0 (.ok ()) := fun F0 H0 F H σ acc Q S hn k => k .non F H (Adv.refl S.ex) rfl acc
theorem ej_txt {x : Str} {n N : Nat} {ts : List TE} {m : Res Unit} (hx : x.length ≤ n) (h : EvJ K W env ts N m) : EvJ K W env (tC (.str x) :: ts) (n + N) m := fun F0 H0 F H σ acc Q S hn k => by
  have e : (acc ++ x).length = acc.length + x.length := Str.length_append ..
  exact ⟨x, rfl, by omega, h F0 H0 F H σ (acc ++ x) Q S (by omega) k⟩
theorem ej_int {te : TE} {N : Nat} {ts : List TE} {m1 : Res Int} {m : Res Unit} (h1 : EvX K W env te m1) (h : EvJ K W env ts N m) : EvJ K W env (tFmt te :: ts) (1000 + N) (m1.bind fun i => .need (i.natAbs.log2 < 1920 ∧ (toString i : Str).length ≤ 1000) m) := fun F0 H0 F H σ acc Q S hn k => by
  refine h1 F0 H0 F H σ _ S (k.cut S.ex fun i v F1 H1 e1 a1 r1 k1 => ?_)
  have r1 : v = V.int i := r1
  subst r1
  by_cases q : i.natAbs.log2 < 1920 ∧ (toString i : Str).length ≤ 1000
  · rw [Res.need_pos q] at k1
    have e : (acc ++ toString i).length = acc.length + (toString i : Str).length := Str.length_append ..
    exact .inr ⟨i, rfl, q.1, toString i, rfl, by omega, h F0 H0 F1 H1 σ _ Q (S.step a1) (by omega) k1⟩
  · rw [Res.need_neg q] at k1; exact k1.elim
theorem blk_raiseJ {c : Str} {m : Res Unit} {ts : List TE} {N : Nat} (L : Lk K W F0 H0 rt PT KP) (hT : PT env) (hN : N ≤ sizeLine) (he : EvJ K W env ts N m) : Blk K F0 H0 KP (fun σ H => tJs ts Str.empty σ H fun _ H1 => W (.ref (He.ga K c)) none σ H1) env (m.bind fun _ => .exc c) := fun F H σ S h => by
  refine he F0 H0 F H σ _ _ S (by show 0 + N ≤ _; omega) (L.ke hT S h fun x v F1 H1 e1 a1 r1 h1 => ?_)
  exact fun _ => L.exc c F1 H1 σ env h1 hT (S.step a1)
end
end Mi
set_option maxHeartbeats 1000000
namespace Mi
open PySem PySem.Spec L2
open Evl (Ex)

/-! ### own classes: rules with what is raised at the caller's slots -/
section
variable {X : Cx} {CX : CXT} {k : Nat} {f C : Addr} {fd : FuncData} {ps : List Str} {sp : Sp} {E : L2.St → XK} {x m : Str} {p pos apos : Pos} {e o : Expr} {es : List Expr} {ta : TE} {t : TA}
def tMethQ (C : Addr) (m : Str) (sp : Sp) (E : L2.St → XK) (ta : TE) (t : TA) : TE := fun σ H Q => ta σ H fun x H1 => ∃ a dx fs, x = .ref a ∧ H1 a = some (.ins C dx fs) ∧ fs.lookup m = none ∧ t σ H1 fun vs H2 => sp (x :: vs) H2 Q (E σ)
def tMakeQ (C : Addr) (sp : Sp) (E : L2.St → XK) (t : TA) : TE := fun σ H Q => t σ H fun vs H1 => ∀ x dx, H1 x = none → H1 dx = none → dx ≠ x → sp (.ref x :: vs) (upd (upd H1 dx (.own x)) x (.ins C dx [])) (fun v H2 => v = .non ∧ Q (.ref x) H2) (E σ)
end

/-! ### fields by their place -/
def posK (f : Str) : List Str → Option Nat
  | [] => none
  | g :: r => if g = f then some 0 else (posK f r).map (· + 1)
section
variable {K : PySem.W.Frag} {W : WX} {F0 H0 F H F' H' F1 : Hp} {rt : VK} {PT : En → Prop} {env env' : En} {α β γ τ : Type} [ToD α] [ToD β] [ToD γ] [ToD τ] [ToR τ] {KP : Res τ → Prop} {te ta tb tc : TE} {tt : TT} {Z : Ends} {t u : TS} {T : L2.St → Hp → Prop} {σ : L2.St}
/-- the heap without an object that a def changes -/
def hide (H : Hp) (p : Addr) : Hp := fun q => if q = p then none else H q
theorem hide_ne {H : Hp} {p q : Addr} (h : q ≠ p) : hide H p q = H q := if_neg h
/-- the promise of an __init__ -/
def KIn (K : PySem.W.Frag) (F H : Hp) (p : Addr) (Q : VK) (E : XK) : Res α → Prop
  | .ok x => ∀ F' H', Adv F (hide H p) F' H' → Rep K F' (toD x) (.ref p) → Q .non H'
  | .exc c => ∀ F' H', Adv F (hide H p) F' H' → E (.ref (He.ga K c)) none H'
  | .stuck => False
def spI (K : PySem.W.Frag) (c : Str) {δ : Type} [ToDs δ] (f : δ → Res α) : Sp := fun vs H Q E => ∃ F y p dx ws, vs = .ref p :: ws ∧ Ex F H ∧ F p = none ∧ H p = some (.ins (He.ga K c) dx []) ∧ Reps K F (ToDs.ds y) ws ∧ KIn K F H p Q E (f y)
end
section
variable {P : Program} {w : World} {K : PySem.W.Frag} {mg : Str → Option Value} {base : Heap} {x qual : Str} {params : Arguments} {body : List Stmt} {scope : Scope} {dvs : List V} {kws : List (Str × V)} {f : Addr} {fd : FuncData}
end
end Mi
namespace Mi
open PySem PySem.Spec L2
open Evl (Ex)
structure T5 (α β γ δ ε : Type) where
  a : α
  b : β
  c : γ
  e : δ
  f : ε
structure T6 (α β γ δ ε ζ : Type) where
  a : α
  b : β
  c : γ
  e : δ
  f : ε
  g : ζ
structure T8 (α β γ δ ε ζ η θ : Type) where
  a : α
  b : β
  c : γ
  e : δ
  f : ε
  g : ζ
  h : η
  i : θ
instance {α β γ δ ε : Type} [ToD α] [ToD β] [ToD γ] [ToD δ] [ToD ε] : ToD (T5 α β γ δ ε) := ⟨fun x => .tup [ToD.d x.a, ToD.d x.b, ToD.d x.c, ToD.d x.e, ToD.d x.f]⟩
instance {α β γ δ ε ζ : Type} [ToD α] [ToD β] [ToD γ] [ToD δ] [ToD ε] [ToD ζ] : ToD (T6 α β γ δ ε ζ) := ⟨fun x => .tup [ToD.d x.a, ToD.d x.b, ToD.d x.c, ToD.d x.e, ToD.d x.f, ToD.d x.g]⟩
instance {α β γ δ ε ζ η θ : Type} [ToD α] [ToD β] [ToD γ] [ToD δ] [ToD ε] [ToD ζ] [ToD η] [ToD θ] : ToD (T8 α β γ δ ε ζ η θ) := ⟨fun x => .tup [ToD.d x.a, ToD.d x.b, ToD.d x.c, ToD.d x.e, ToD.d x.f, ToD.d x.g, ToD.d x.h, ToD.d x.i]⟩
def optGet {α : Type} : Option α → Res α
  | some x => .ok x
  | none => .stuck
def D.asT1 : D → Res (T1 D)
  | .tup [a] => .ok ⟨a⟩
  | _ => .stuck
def D.asT2 : D → Res (T2 D D)
  | .tup [a, b] => .ok ⟨a, b⟩
  | _ => .stuck
def D.asT3 : D → Res (T3 D D D)
  | .tup [a, b, c] => .ok ⟨a, b, c⟩
  | _ => .stuck
def D.lenR : D → Res Int
  | .tup xs => .ok (xs.length : Int)
  | .lst xs => .ok (xs.length : Int)
  | _ => .stuck
section
variable {K : PySem.W.Frag} {W : WX} {F0 H0 F H F' H' F1 : Hp} {rt : VK} {PT : En → Prop} {env env' : En} {α β γ τ : Type} [ToD α] [ToD β] [ToD γ] [ToD τ] [ToR τ] {KP : Res τ → Prop} {te ta tb tc : TE} {tt : TT} {Z : Ends} {t u : TS} {T : L2.St → Hp → Prop} {σ : L2.St}
theorem ev_lenD {m : Res D} (h : EvX K W env te m) : EvX K W env (tCB (rLenS K) (tCons te tNil)) (m.bind fun x => D.lenR x) := fun F0 H0 F H σ Q S k => by
  refine h F0 H0 F H σ _ S (KE.cut S.ex k fun x v F1 H1 e1 a1 r1 k1 => ?_)
  have k1 : KE K W F1 H1 σ Q (D.lenR x) := k1
  cases x with
  | tup xs =>
    obtain ⟨a, vs, rfl, h2, h3⟩ := r1
    refine ⟨a, vs, rfl, .inr (Evl.ex_t a1.in_ h2), ?_⟩
    have := k1 (.int xs.length) F1 H1 (Adv.refl a1.in_) rfl
    rw [← h3.length]; exact this
  | lst xs =>
    obtain ⟨a, vs, rfl, h2, h3⟩ := r1
    refine ⟨a, vs, rfl, .inl (sq_ex a1.in_ h2), ?_⟩
    have := k1 (.int xs.length) F1 H1 (Adv.refl a1.in_) rfl
    rw [← h3.length]; exact this
  | _ => exact k1.elim
end
end Mi
set_option maxHeartbeats 1000000
namespace Mi
open PySem PySem.Spec L2
open Evl (Ex)
def CPowX (i j : Int) : Prop := 0 ≤ j ∧ (Builtin.Int.intBits i : Int) * j ≤ 2 ^ 27
end Mi
namespace Mi
open PySem PySem.Spec L2
/-- a promise of nothing -/
theorem fnok_stuck {P : Program} {w : World} {K : PySem.W.Frag} {mg : Str → Option Value} {base : Heap} {k : Nat} {f : Addr} {fd : FuncData} {ps : List Str} {β τ : Type} [ToDs β] [ToD τ] (fM : β → Res τ) (h : ∀ y, fM y = .stuck) : FnOk P w K mg base (L2.CX P w) k f fd ps (spM K fM) := by
  have no : ∀ vs H Q E, ¬ spM K fM vs H Q E := by
    rintro vs H Q E ⟨F, x, _, _, q⟩
    rw [h x] at q
    exact q
  exact ⟨fun vs H Q E q => absurd q (no _ _ _ _), fun A outer s H args us vs Q E _ _ _ _ q => absurd q (no _ _ _ _)⟩
end Mi
set_option maxHeartbeats 1000000
namespace Mi
open PySem PySem.Spec L2
open Evl (Ex)
structure T7 (α β γ δ ε ζ η : Type) where
  a : α
  b : β
  c : γ
  e : δ
  f : ε
  g : ζ
  h : η
instance {α β γ δ ε ζ η : Type} [ToD α] [ToD β] [ToD γ] [ToD δ] [ToD ε] [ToD ζ] [ToD η] : ToD (T7 α β γ δ ε ζ η) := ⟨fun x => .tup [ToD.d x.a, ToD.d x.b, ToD.d x.c, ToD.d x.e, ToD.d x.f, ToD.d x.g, ToD.d x.h]⟩

/-! ### the module's constants -/
def tupB (K : PySem.W.Frag) (a : Addr) : Option (List Value) := match K.lookup a with
  | some o => match o.data with
    | .seq its n => if o.cls = .type "tuple" ∧ its.size ≤ sizeLine then some its.toList else none
    | _ => none
  | none => none
mutual
def repB (K : PySem.W.Frag) : D → Value → Bool
  | .non, u => decide (u = .none)
  | .bl b, u => decide (u = .bool b)
  | .int i, .int j _ => decide (j = i)
  | .str s, .str z _ => decide (z = s)
  | .ty n, u => decide (u = .type n)
  | .tup ds, .ref a => (match tupB K a with
    | some us => repsB K ds us
    | none => false)
  | _, _ => false
def repsB (K : PySem.W.Frag) : List D → List Value → Bool
  | [], us => us.isEmpty
  | d :: ds, u :: us => repB K d u && repsB K ds us
  | _ :: _, [] => false
end
theorem tupB_ok {K : PySem.W.Frag} {a : Addr} {us : List Value} (h : tupB K a = some us) {xs : List V} (r : Vals xs us) (F : Hp) : SqT K F a xs := by
  unfold tupB at h
  split at h
  · rename_i o e
    split at h
    · rename_i its n ed
      split at h
      · rename_i hc
        cases h
        exact .inr ⟨o, its, n, e, hc.1, ed, hc.2, r⟩
      · cases h
    · cases h
  · cases h
mutual
theorem repB_ok {K : PySem.W.Frag} : ∀ (d : D) (u : Value), repB K d u = true → ∃ v, RelV v u ∧ ∀ F, Rep K F d v
  | .non, u, h => ⟨.non, (of_decide_eq_true (show decide (u = Value.none) = true from h) : u = Value.none), fun _ => rfl⟩
  | .bl b, u, h => ⟨.bl b, (of_decide_eq_true (show decide (u = Value.bool b) = true from h) : u = Value.bool b), fun _ => rfl⟩
  | .ty n, u, h => ⟨.ty n, (of_decide_eq_true (show decide (u = Value.type n) = true from h) : u = Value.type n), fun _ => rfl⟩
  | .int i, u, h => by
    cases u with
    | int j t => exact ⟨.int i, ⟨t, by rw [of_decide_eq_true (show decide (j = i) = true from h)]⟩, fun _ => rfl⟩
    | _ => cases h
  | .str s, u, h => by
    cases u with
    | str z t => exact ⟨.str s, ⟨t, by rw [of_decide_eq_true (show decide (z = s) = true from h)]⟩, fun _ => rfl⟩
    | _ => cases h
  | .tup ds, u, h => by
    cases u with
    | ref a =>
      rw [repB] at h
      split at h
      · rename_i us e
        obtain ⟨xs, r, hr⟩ := repsB_ok ds us h
        exact ⟨.ref a, rfl, fun F => ⟨a, xs, rfl, tupB_ok e r F, hr F⟩⟩
      · cases h
    | _ => cases h
  | .lst ds, u, h => by cases u <;> cases h
  | .obj c ks ds, u, h => by cases u <;> cases h
  | .ro ds, u, h => by cases u <;> cases h
  | .dct ks ds, u, h => by cases u <;> cases h
theorem repsB_ok {K : PySem.W.Frag} : ∀ (ds : List D) (us : List Value), repsB K ds us = true → ∃ xs, Vals xs us ∧ ∀ F, Reps K F ds xs
  | [], us, h => by
    cases us with
    | nil => exact ⟨[], .nil, fun _ => rfl⟩
    | cons u us => cases h
  | d :: ds, us, h => by
    cases us with
    | nil => cases h
    | cons u us =>
      rw [repsB] at h
      obtain ⟨h1, h2⟩ := He.ba h
      obtain ⟨v, r, hv⟩ := repB_ok d u h1
      obtain ⟨xs, rs, hx⟩ := repsB_ok ds us h2
      exact ⟨v :: xs, .cons r rs, fun F => ⟨v, xs, rfl, hv F, hx F⟩⟩
end
def conB (K : PySem.W.Frag) (cs : List (Str × D)) : Bool := cs.all fun c => match PySem.W.nsIn K mainGlobals c.1 with
  | some (some u) => repB K c.2 u
  | _ => false
/-- a name of the module that stands for data -/
def ConF (K : PySem.W.Frag) (mg : Str → Option Value) (x : Str) (d : D) : Prop := ∃ u v, mg x = some u ∧ RelV v u ∧ ∀ F, Rep K F d v
section
variable {K : PySem.W.Frag} {mg : Str → Option Value} {x : Str} {d : D}
noncomputable def ConF.u (h : ConF K mg x d) : Value := h.choose
noncomputable def ConF.v (h : ConF K mg x d) : V := h.choose_spec.choose
theorem ConF.m (h : ConF K mg x d) : mg x = some h.u := h.choose_spec.choose_spec.1
theorem ConF.r (h : ConF K mg x d) : RelV h.v h.u := h.choose_spec.choose_spec.2.1
theorem ConF.p (h : ConF K mg x d) (F : Hp) : Rep K F d h.v := h.choose_spec.choose_spec.2.2 F
end
/-! ### lists that are only read -/
section
variable {K : PySem.W.Frag} {W : WX} {F0 H0 F H F' H' F1 : Hp} {env : En} {α β γ : Type} [ToD α] [ToD β] [ToD γ] {te ta tb : TE}
theorem opx_ixR : OpX K (rIxL K) (fun (xs : Ro α) (i : Int) => idx xs.xs i) := fun F H xs i v u Q e h1 h2 k => by
  obtain ⟨a, vs, rfl, hl, hr⟩ := h1
  cases (show u = V.int i from h2)
  dsimp only [idx] at k
  cases q : atI xs.xs i with
  | none => rw [q] at k; exact k.elim
  | some x =>
    rw [q] at k
    obtain ⟨w, hw, rw_⟩ := Reps.at (i := i) hr (x := toD x) (by rw [atI_map, q]; rfl)
    exact ⟨a, vs, i, w, rfl, rfl, Evl.ex_l e hl, hw, k _ F H (Adv.refl e) rw_⟩
theorem cx_lenRo : CrX K (rLenS K) (fun (p : Ro α × Unit) => .ok (p.1.xs.length : Int)) := fun F H x vs Q e r k => by
  obtain ⟨v, rs, rfl, r1, r2⟩ := r
  cases (show rs = [] from r2)
  obtain ⟨a, ws, rfl, hl, hr⟩ := r1
  refine ⟨a, ws, rfl, .inl (Evl.ex_l e hl), ?_⟩
  have := k (.int (x.1.xs.length : Int)) F H (Adv.refl e) rfl
  have l := hr.length
  rw [List.length_map] at l
  rw [← l]; exact this
/-! ### joined and repeated lists -/
theorem en_cat {m1 m2 : Res (List α)} (ha : EvX K W env ta m1) (hb : EvX K W env tb m2) : EvN K W env (tOp rCat ta tb) (m1.bind fun x => m2.bind fun y => .need (x.length + y.length ≤ 16777216) (.ok (x ++ y))) := fun F0 H0 F H σ Q S k => by
  refine ha F0 H0 F H σ _ S ?_
  cases m1 with
  | ok x =>
    intro v F1 H1 a1 r1
    refine hb F0 H0 F1 H1 σ _ (S.step a1) ?_
    cases m2 with
    | ok y =>
      intro u F2 H2 a2 r2
      have k : KN K W F H σ Q (Res.need (x.length + y.length ≤ 16777216) (.ok (x ++ y))) := k
      by_cases c : x.length + y.length ≤ 16777216
      · rw [Res.need_pos c] at k
        obtain ⟨p, vs, rfl, h1, h2⟩ := r1
        obtain ⟨q, ws, rfl, g1, g2⟩ := r2
        have l1 := h2.length
        have l2 := g2.length
        rw [List.length_map] at l1 l2
        refine ⟨p, q, vs, ws, rfl, rfl, a2.h _ _ (a1.in_ _ _ h1), a2.in_ _ _ g1, ?_, fun z hz => ?_⟩
        · rw [← l1, ← l2]; exact c
        · refine k z (vs ++ ws) F2 _ ((a1.trans a2).trans (Adv.newO a2.in_ hz)) (Evl.fresh_back (a1.trans a2).h hz) (none_of_ex a2.in_ hz) upd_same ?_
          rw [List.map_append]
          exact Reps.append (Reps.mono a2.f _ _ h2) g2
      · rw [Res.need_neg c] at k; exact k.elim
    | exc c => exact fun F2 H2 a2 => k F2 H2 (a1.trans a2)
    | stuck => exact k.elim
  | exc c => exact k
  | stuck => exact k.elim
theorem Reps.flat {xs : List D} {vs : List V} (h : Reps K F xs vs) : ∀ n : Nat, Reps K F (List.replicate n xs).flatten (List.replicate n vs).flatten
  | 0 => rfl
  | n + 1 => by
    rw [List.replicate_succ, List.replicate_succ, List.flatten_cons, List.flatten_cons]
    exact Reps.append h (Reps.flat h n)
def RepOk (n : Nat) (k : Int) : Prop := -(2 ^ 63) ≤ k ∧ k < 2 ^ 63 ∧ n * k.toNat ≤ 16777216
end
end Mi
set_option maxHeartbeats 1000000
namespace Mi
open PySem PySem.Spec L2 PyProof.Rows
open Evl (Ex)
/-! ### xs[i] += e -/
def rGetL : V → V → Hp → VK → Prop := fun o i H Q => ∃ p xs k v, o = .ref p ∧ i = .int k ∧ H p = some (.lst xs) ∧ 0 ≤ k ∧ xs[k.toNat]? = some v ∧ Q v H
section
variable {K : PySem.W.Frag} {W : WX} {F0 H0 F H F' H' F1 : Hp} {rt : VK} {PT : En → Prop} {env env' : En} {τ : Type} [ToD τ] [ToR τ] {KP : Res τ → Prop} {te ta tb tc : TE} {Z : Ends}
end
end Mi
set_option maxHeartbeats 1000000
namespace Mi
open PySem PySem.Spec L2
open Evl (Ex)
section
variable {K : PySem.W.Frag}
/-! ### x in a list or tuple of ints, of texts -/
theorem flat_intV : ∀ ns : List Int, (ns.map V.int).all flatV = true
  | [] => rfl
  | n :: ns => by rw [List.map_cons, List.all_cons, flat_intV ns]; rfl
theorem in_intV (x : Int) : ∀ ns : List Int, inV (.int x) (ns.map V.int) = decide (x ∈ ns)
  | [] => by simp [inV]
  | n :: ns => by
    have ih := in_intV x ns
    unfold inV at ih ⊢
    rw [List.map_cons, List.any_cons, ih]
    by_cases h : x = n
    · subst h; simp [eqV]
    · have : (n == x) = false := by simp; exact fun z => h z.symm
      simp [eqV, h, this]
/-- what holds items -/
class Holds (σ : Type) (α : Type) [ToD α] [ToD σ] where
  xs : σ → List α
  at_ : ∀ (K : PySem.W.Frag) (F H : Hp) (y : σ) (u : V), Ex F H → Rep K F (toD y) u → ∃ p vs, u = .ref p ∧ (SqL K H p vs ∨ SqT K H p vs) ∧ Reps K F ((xs y).map toD) vs
instance {α : Type} [ToD α] : Holds (List α) α := ⟨fun x => x, fun K F H y u e h => by
  obtain ⟨a, vs, rfl, hl, hr⟩ := h
  exact ⟨a, vs, rfl, .inl (sq_ex e hl), hr⟩⟩
instance {α : Type} [ToD α] : Holds (Ro α) α := ⟨fun x => x.xs, fun K F H y u e h => by
  obtain ⟨a, vs, rfl, hl, hr⟩ := h
  exact ⟨a, vs, rfl, .inl (Evl.ex_l e hl), hr⟩⟩
instance {α : Type} [ToD α] : Holds (Tu α) α := ⟨fun x => x.xs, fun K F H y u e h => by
  obtain ⟨a, vs, rfl, hl, hr⟩ := h
  exact ⟨a, vs, rfl, .inr (Evl.ex_t e hl), hr⟩⟩
theorem opx_inI {σ : Type} [ToD σ] [Hd : Holds σ Int] (neg : Bool) : OpX K (rIn K neg) (fun (x : Int) (ys : σ) => .ok (if neg then !decide (x ∈ Hd.xs ys) else decide (x ∈ Hd.xs ys))) := fun F H x y v u Q e h1 h2 k => by
  obtain ⟨p, vs, rfl, hq, hr⟩ := Hd.at_ K F H y u e h2
  cases (show v = V.int x from h1)
  have hr : Reps K F ((Hd.xs y).map D.int) vs := hr
  have q := hr.ints
  subst q
  refine ⟨p, _, rfl, hq, rfl, flat_intV _, ?_⟩
  rw [in_intV]
  exact k _ F H (Adv.refl e) rfl
end
end Mi
set_option maxHeartbeats 1000000
namespace Mi
open PySem PySem.Spec PyProof.Rows L2
open Evl (Ex)
/-! ### a method whose last row is super().__init__(..) -/
structure FnScopeS (N P : List Str) (sc : Scope) : Prop where
  kind : sc.kind = .function
  co : sc.isCoroutine = false
  gen : sc.isGenerator = false
  nd : N.Nodup
  pre : N.take P.length = P
  par : ∀ x ∈ P, sc.names.lookup x = some .local
  nocell : ∀ y ∈ sc.names, y.2 ≠ .cell
  only : ∀ y ∈ sc.names, y.2 = .free → y.1 = ("__class__" : Str)
  sup : sc.names.lookup ("super" : Str) = some .globalImplicit
  cls : sc.names.lookup ("__class__" : Str) = some .free
/-- where it stands -/
structure FunS (K : PySem.W.Frag) (x qual : Str) (params : Arguments) (body : List Stmt) (scope : Scope) (f cc cda D : Addr) (file : Str) (fd : FuncData) : Prop where
  ex : ∃ (oc : Value) (od : Option Addr) (doc pm : Value) (an : Option Addr) (ct : Value) (osl : Array (Option Value)), fd = PySem.W.ksFn x qual params body scope .none .none doc pm an (.ref cda) ct cc ∧ K.lookup f = some ⟨oc, od, .func fd, osl⟩ ∧ PySem.W.codeIn K (.ref cda) qual = true
  kp : PySem.W.keepIn K (.ref f) = true
  code : ∃ (ccl : Value) (cdd : Option Addr) (vs : Array Value) (ccs : Array (Option Value)) (tf : Tok), K.lookup cda = some ⟨ccl, cdd, .fields vs, ccs⟩ ∧ vs[2]? = some (.str file tf)
  cell : ∃ (cl : Value) (cld : Option Addr) (csl : Array (Option Value)), K.lookup cc = some ⟨cl, cld, .cell (some (.ref D)), csl⟩
/-- what super().__init__ of an instance of C, from within D, comes to: g -/
structure SupF (K : PySem.W.Frag) (C D g : Addr) : Prop where
  dcl : ∃ cd, PySem.W.clsIn K D = some cd
  ccl : ∃ cd, PySem.W.clsIn K C = some cd
  sub : PySem.W.mroIn K C (.ref D) = some true
  op : PySem.W.nsIn K cStatics "thirdparty.any" = some none
  mt : PySem.W.ks_superIn K C D "__init__" = some (some (.ref g))
  ty : PySem.W.typeIn K (.ref g) = some (.type "function")
  fi : PySem.W.fnIn K g = true
abbrev envS (qual : Str) (scope : Scope) (L a : Addr) (cda cc : Addr) : Env := PySem.W.ksEnv qual scope L a (.ref cda) cc
def cxS (CX : CXT) (P : Program) (w : World) (K : PySem.W.Frag) (mg : Str → Option Value) (base : Heap) (N : List Str) (qual : Str) (scope : Scope) (f cda cc : Addr) (A : Around) (outer : List Env) (s : Shared) (H : Hp) (E : XK) : Cx where
  prog := P
  w := w
  K := K
  mg := mg
  base := base
  A := A.deeper (envS qual scope s.heap.objs.size f cda cc)
  N := N
  s_0 := s
  H_0 := H
  env := envS qual scope s.heap.objs.size f cda cc
  outer := outer
  stack := envS qual scope s.heap.objs.size f cda cc :: outer
  ex := []
  calm := true
  fn := fun _ => false
  pn := []
  xe := fun e s' => wpAny (model P w) (A.deeper (envS qual scope s.heap.objs.size f cda cc)) (leaving (envS qual scope s.heap.objs.size f cda cc) e) (fun _ s'' => CX outer H s E e s'') (fun e' s'' => CX outer H s E e' s'') s'
/-- rows of a body that runs as such -/
structure PSf (X : Cx) (c : Code) (st : List Stmt) (t : TS) : Prop where
  run : ∀ (pins : List (Addr × Obj)) (s : Shared) (σ : L2.St) (H : Hp) (D : Ends), Inv X pins σ H s → t D σ H → _root_.PySem.wpAt (model X.prog X.w) X.A c (execs st X.env) (SP X pins D) X.xe s
/-- super().__init__(..), the last row -/
def tSuper (C g : Addr) (sp : Sp) (E : XK) (t : TA) : TS := fun D σ H => ∃ p dx fs, σ[0]? = some (some (.ref p)) ∧ H p = some (.ins C dx fs) ∧ t σ H fun vs H1 => sp (.ref p :: vs) H1 (fun _ H2 => D.nx σ H2) E
end Mi
set_option maxHeartbeats 1000000
namespace Mi
open PySem PySem.Spec PyProof.Rows L2
open Evl (Ex)
/-! ### what the head tells -/
abbrev FnC : Type := Option (Str × Str × Arguments × FuncBody × Scope × Addr × List Str × Value × Value × Addr)
/-- a method that says super(): its class, the def's place in it -/
structure SupD where
  cls : Str
  name : Str
  qual : Str
  params : Arguments
  body : List Stmt
  scope : Scope
  file : Str
def SupD.val (d : SupD) : FnC := some (d.name, d.qual, d.params, .stmts d.body, d.scope, mainGlobals, [("__class__" : Str)], .none, .none, builtinsNs)
def SupD.ad (K : PySem.W.Frag) (d : SupD) : Addr := He.ma K (He.ga K d.cls) d.name
def fnC (K : PySem.W.Frag) (a : Addr) : FnC := match K.lookup a with
  | some o => (match o.data with
    | .func fd => some (fd.name, fd.qualname, fd.params, fd.body, fd.scope, fd.globals, fd.closure.map (·.1), fd.defaults, fd.kwdefaults, fd.builtins)
    | _ => none)
  | none => none
def fnData (K : PySem.W.Frag) (a : Addr) : Option FuncData := match K.lookup a with
  | some o => (match o.data with
    | .func fd => some fd
    | _ => none)
  | none => none
def cellB (K : PySem.W.Frag) (c D : Addr) : Bool := match K.lookup c with
  | some o => (match o.data with
    | .cell (some (.ref d)) => d == D
    | _ => false)
  | none => false
def codeB (K : PySem.W.Frag) (c : Addr) (file : Str) : Bool := match K.lookup c with
  | some o => (match o.data with
    | .fields vs => (match (vs[2]? : Option Value) with
      | some (.str z _) => decide (z = file)
      | _ => false)
    | _ => false)
  | none => false
def SupD.ok (K : PySem.W.Frag) (d : SupD) : Bool := PySem.W.keepIn K (.ref (d.ad K)) && (match fnData K (d.ad K) with
  | some fd => PySem.W.codeIn K fd.code d.qual && (match fd.code, fd.closure with
    | .ref c, [(_, cc)] => codeB K c d.file && cellB K cc (He.ga K d.cls)
    | _, _ => false)
  | none => false)
theorem lookO {K : PySem.W.Frag} {a : Addr} {o : Obj} (h : K.lookup a = some o) {dt : Data} (e : o.data = dt) : K.lookup a = some ⟨o.cls, o.dict, dt, o.slots⟩ := by rw [h, ← e]
theorem cellB_ok {K : PySem.W.Frag} {c D : Addr} (h : cellB K c D = true) : ∃ (cl : Value) (cld : Option Addr) (csl : Array (Option Value)), K.lookup c = some ⟨cl, cld, .cell (some (.ref D)), csl⟩ := by
  unfold cellB at h
  split at h
  · rename_i o q
    split at h
    · rename_i d e
      have : d = D := beq_iff_eq.mp h
      subst this
      exact ⟨_, _, _, lookO q e⟩
    · cases h
  · cases h
theorem codeB_ok {K : PySem.W.Frag} {c : Addr} {file : Str} (h : codeB K c file = true) : ∃ (ccl : Value) (cdd : Option Addr) (vs : Array Value) (ccs : Array (Option Value)) (tf : Tok), K.lookup c = some ⟨ccl, cdd, .fields vs, ccs⟩ ∧ vs[2]? = some (.str file tf) := by
  unfold codeB at h
  split at h
  · rename_i o q
    split at h
    · rename_i vs e
      split at h
      · rename_i z t e2
        have : z = file := of_decide_eq_true h
        subst this
        exact ⟨_, _, _, _, _, lookO q e, e2⟩
      · cases h
    · cases h
  · cases h
theorem supD_ok {K : PySem.W.Frag} {d : SupD} (e : fnC K (d.ad K) = d.val) (h : d.ok K = true) : ∃ fd cc cda, FunS K d.name d.qual d.params d.body d.scope (d.ad K) cc cda (He.ga K d.cls) d.file fd := by
  unfold SupD.ok at h
  obtain ⟨kp, h⟩ := He.ba h
  split at h
  · rename_i fd q
    obtain ⟨hc, h⟩ := He.ba h
    unfold fnData at q
    split at q
    · rename_i o lk
      split at q
      · rename_i fd' e1
        cases q
        unfold fnC at e
        rw [lk] at e
        dsimp only at e
        rw [e1] at e
        split at h
        · rename_i c y cc e2 e3
          obtain ⟨h1, h2⟩ := He.ba h
          obtain ⟨n1, n2, n3, n4, n5, n6, n7, n8, n9, n10, n11, n12, n13, n14, n15⟩ := fd
          dsimp only at e2 e3 hc
          subst e2 e3
          unfold SupD.val at e
          simp only [Option.some.injEq, Prod.mk.injEq, List.map_cons, List.map_nil, List.cons.injEq, and_true] at e
          obtain ⟨r1, r2, r3, r4, r5, r6, r7, r8, r9, r10⟩ := e
          subst r1 r2 r3 r4 r5 r6 r7 r8 r9 r10
          exact ⟨_, cc, c, ⟨_, _, _, _, _, _, _, rfl, lookO lk e1, hc⟩, kp, codeB_ok h1, cellB_ok h2⟩
        · cases h
      · cases q
    · cases q
  · cases h
/-- super().__init__ of an instance of c within D: which def -/
def supB (K : PySem.W.Frag) (c D g : Str) : Bool := (PySem.W.clsIn K (He.ga K D)).isSome && ((PySem.W.clsIn K (He.ga K c)).isSome && (decide (PySem.W.mroIn K (He.ga K c) (.ref (He.ga K D)) = some true) && (He.eqO (PySem.W.nsIn K cStatics "thirdparty.any") (some none) &&
  (He.eqO (PySem.W.ks_superIn K (He.ga K c) (He.ga K D) "__init__") (some (some (.ref (He.ma K (He.ga K g) "__init__")))) && (decide (PySem.W.typeIn K (.ref (He.ma K (He.ga K g) "__init__")) = some (.type "function")) && PySem.W.fnIn K (He.ma K (He.ga K g) "__init__"))))))
/-! ### dicts of the top with text keys -/
def tabB (K : PySem.W.Frag) (a : Addr) (kvs : List (Str × D)) : Bool := kvs.all fun q => match PySem.W.nsIn K a q.1 with
  | some (some u) => repB K q.2 u
  | _ => false
/-- a name of the module that stands for such a dict -/
structure TabF (K : PySem.W.Frag) (w : World) (mg : Str → Option Value) (x : Str) (kvs : List (Str × D)) : Prop where
  m : mg x = some (.ref (He.ga K x))
  d : ∃ es n, KDict K w (He.ga K x) es n
  hit : ∀ z d, kvs.lookup z = some d → ∃ u v, PySem.W.nsIn K (He.ga K x) z = some (some u) ∧ RelV v u ∧ ∀ F, Rep K F d v
  miss : ∀ z, kvs.lookup z = none → PySem.W.nsIn K (He.ga K x) z = some none
/-! ### the hook -/
abbrev AlY : Type := He.AlT × Bool × List FnC
def asY (g : Addr → Option Obj) (n : Nat) : List Addr := He.asD g n ++ [cStatics]
def obsY (n : Nat) (fa : List He.Fa) (fn : List He.DefD) (ts : List He.Tab) (ss : List SupD) (ex : PySem.W.Frag → Bool) (g : Addr → Option Obj) : AlY :=
  (He.obsT fa fn ts (He.frT g (asY g n)), ex (He.frT g (asY g n)) && ss.all (SupD.ok (He.frT g (asY g n))), ss.map fun d => fnC (He.frT g (asY g n)) (d.ad (He.frT g (asY g n))))
def valY (fn : List He.DefD) (ts : List He.Tab) (ss : List SupD) (w : World) : AlY := (He.valT fn ts w, true, ss.map SupD.val)
structure SaysY (fa : List He.Fa) (fn : List He.DefD) (ts : List He.Tab) (ss : List SupD) (ex : PySem.W.Frag → Bool) (w : World) (K : PySem.W.Frag) : Prop where
  t : He.SaysT fa fn ts w K
  more : ex K = true
  sup : ∀ d ∈ ss, ∃ fd cc cda, FunS K d.name d.qual d.params d.body d.scope (d.ad K) cc cda (He.ga K d.cls) d.file fd
theorem saysY_of {n : Nat} {fa : List He.Fa} {fn : List He.DefD} {ts : List He.Tab} {ss : List SupD} {ex : PySem.W.Frag → Bool} {w : World} {h : Heap} (e : obsY n fa fn ts ss ex h.get? = valY fn ts ss w) : SaysY fa fn ts ss ex w (He.frT h.get? (asY h.get? n)) := by
  have e2 : (ex (He.frT h.get? (asY h.get? n)) && ss.all (SupD.ok (He.frT h.get? (asY h.get? n)))) = true := congrArg (fun z : AlY => z.2.1) e
  have e3 : (ss.map fun d => fnC (He.frT h.get? (asY h.get? n)) (d.ad (He.frT h.get? (asY h.get? n)))) = ss.map SupD.val := congrArg (fun z : AlY => z.2.2) e
  obtain ⟨h1, h2⟩ := He.ba e2
  exact ⟨congrArg (fun z : AlY => z.1) e, h1, fun d hd => supD_ok (List.map_inj_left.mp e3 d hd) (List.all_eq_true.mp h2 d hd)⟩
def hookY (n : Nat) (fa : List He.Fa) (fn : List He.DefD) (ts : List He.Tab) (ss : List SupD) (ex : PySem.W.Frag → Bool) : PySem.W.Hook where
  α := AlY
  obs := fun s => obsY n fa fn ts ss ex s.heap.get?
  val := fun w => valY fn ts ss w
  says := fun w h => ∃ K : PySem.W.Frag, K.In h ∧ SaysY fa fn ts ss ex w K
  of := fun _ _ e => ⟨_, He.frT_in, saysY_of e⟩
  keeps := fun _ _ _ ⟨K, hK, c⟩ k => ⟨K, PySem.W.Frag.In.keeps hK k, c⟩
/-! ### a dict of the top, read -/
def dget {α : Type} (kvs : List (Str × α)) (z : Str) : Res α := match kvs.lookup z with
  | some x => .ok x
  | none => .stuck
def din {α : Type} (kvs : List (Str × α)) (z : Str) : Bool := (kvs.lookup z).isSome
abbrev tabD {α : Type} [ToD α] (kvs : List (Str × α)) : List (Str × D) := kvs.map fun p => (p.1, toD p.2)
def rInD (K : PySem.W.Frag) (a : Addr) (neg : Bool) : R2 := fun x y H Q => ∃ (z : Str) (r : Option Value), x = .str z ∧ y = .ref a ∧ PySem.W.nsIn K a z = some r ∧ Q (.bl (if neg then !r.isSome else r.isSome)) H
section
variable {K : PySem.W.Frag} {w : World} {mg : Str → Option Value} {x : Str} {kvs : List (Str × D)}
variable {W : WX} {env : En} {te : TE} {α : Type} [ToD α] {l : List (Str × α)}
end
/-! ### one of two -/
inductive Un (α β : Type) where
  | l (x : α) | r (y : β)
instance {α β : Type} [ToD α] [ToD β] : ToD (Un α β) := ⟨fun u => match u with | .l x => ToD.d x | .r y => ToD.d y⟩
def Un.asL {α β : Type} : Un α β → Res α
  | .l x => .ok x
  | .r _ => .stuck
def Un.asR {α β : Type} : Un α β → Res β
  | .l _ => .stuck
  | .r y => .ok y
section
variable {α β : Type} [ToD α] [ToD β]
end
def orR {α : Type} : Res α → Res α → Res α
  | .stuck, m => m
  | .ok x, _ => .ok x
  | .exc c, _ => .exc c
def tAlt (ta tb : TE) : TE := fun σ H Q => ta σ H Q ∨ tb σ H Q
/-! ### super().__init__ in blocks -/
theorem FunS.bindsN {K : PySem.W.Frag} {x qual : Str} {params : Arguments} {body : List Stmt} {scope : Scope} {f cc cda D : Addr} {file : Str} {fd : FuncData} {ps : List Str} (F : FunS K x qual params body scope f cc cda D file fd)
    (h : ∀ (doc pm : Value) (an : Option Addr) (ct : Value) (us : List Value), us.length = ps.length → bindArgs (PySem.W.ksFn x qual params body scope .none .none doc pm an (.ref cda) ct cc) ⟨us, []⟩ = pure (ps.zip us)) : Binds K fd ps [] := by
  obtain ⟨oc, od, doc, pm, an, ct, osl, rfl, lk, hcd⟩ := F.ex
  exact .all (h doc pm an ct)
section
variable {P : Program} {w : World} {K : PySem.W.Frag} {mg : Str → Option Value} {base : Heap} {x qual file : Str} {params : Arguments} {body : List Stmt} {scope : Scope} {f cc cda D : Addr} {fd : FuncData}
end
/-! ### the head's run, looked at in two pieces -/
section
open PySem.W PySem.Calls PyProof.Rows HandSHeadRun
def RunOb {β : Type} (P : Program) (f : SharedT → β) (M : Nat) (w : World) (v : β) : Prop := ∀ os : OsState, (endF (stepQ (denQ tabQ) P w) M P w os).map f = some v
noncomputable abbrev seeOb (r : OpenRow) (q : Program) (loose : List PySem.Str) (w : World) :=
  fun s : SharedT => (looksF r.prog (boot_heap w.params) s.abs, seenQ q loose (importedModules r.prog.main.body) (fun s => xlAt q [] s && recOk r.toRowW.records s) s.abs)
end
end Mi
set_option maxHeartbeats 1000000
namespace Mi
open PySem PySem.Spec L2
/-! ### a try of several clauses without names; statements that are never reached -/
/-- the outcome of the clauses for an error of class c -/
def pickR {τ : Type} (sub : Str → Str → Bool) (c : Str) : List (Str × Res τ) → Res τ
  | [] => .exc c
  | (x, m) :: r => if sub c x = true then m else pickR sub c r
def tryM {S τ : Type} (known : Str → Bool) (sub : Str → Str → Bool) (m : Res (Fall S τ)) (rest : S → Res τ) (hs : List (Str × Res τ)) : Res τ := match m with
  | .ok (.go s) => rest s
  | .ok (.back x) => .ok x
  | .exc c => if known c = true then pickR sub c hs else .stuck
  | .stuck => .stuck
def tTryM (K : PySem.W.Frag) (l : List (Value × (Addr → Value → Option Addr → TS))) (W : WX) (tb : WX → TS) : TS := fun D σ H => tb (wMany K W D l) D σ H
section
variable {X : Cx} {body : List Stmt} {h₀ : ExceptHandler} {hds : List ExceptHandler} {l : List (Value × (Addr → Value → Option Addr → TS))} {pos : Pos} {tb : WX → TS} {Wout : WX}
theorem ps_tryM (hs : X.stack = X.env :: X.outer) (hf : X.env.frame = some X.env.locals) (tk : Takes X Wout)
    (hb : ∀ (W : WX) (pn : List (Addr × Obj)) (xe : Value → Shared → Prop), Takes (X.tr pn xe) W → PassesOwn (model X.prog X.w) X.A X.env xe → PSs (X.tr pn xe) body (tb W))
    (hh : HdsOk X (h₀ :: hds) l) : PS X (.Try body (h₀ :: hds) [] [] pos) (tTryM X.K l Wout tb) := ps_try_many hs hf tk hb hh
end
section
variable {K : PySem.W.Frag} {W : WX} {F0 H0 F H : Hp} {rt : VK} {PT : En → Prop} {env env' : En} {τ : Type} [ToD τ] [ToR τ] {KP : Res τ → Prop} {Z : Ends}
inductive HdB (K : PySem.W.Frag) (F0 H0 : Hp) {τ : Type} (KP : Res τ → Prop) (Z : Ends) (env : En) (cs : List Str) : List (Value × (Addr → Value → Option Addr → TS)) → List (Str × Res τ) → Prop
  | nil : HdB K F0 H0 KP Z env cs [] []
  | cons {x : Str} {ts : Addr → Value → Option Addr → TS} {mh : Res τ} {l : List (Value × (Addr → Value → Option Addr → TS))} {hs : List (Str × Res τ)} (hx : x ∈ cs)
      (hb : ∀ (a : Addr) (cls : Value), Blk K F0 H0 KP (ts a cls none Z) env mh) (r : HdB K F0 H0 KP Z env cs l hs) : HdB K F0 H0 KP Z env cs ((.ref (He.ga K x), ts) :: l) ((x, mh) :: hs)
theorem HdB.go {cs : List Str} {sub : Str → Str → Bool} {c : Str} {σ : L2.St} (L : Lk K W F0 H0 rt PT KP) (hT : PT env) (C : Cls K cs sub) (hc : c ∈ cs) (S2 : Sl K F0 H0 F H σ env) :
    ∀ {l : List (Value × (Addr → Value → Option Addr → TS))} {hs : List (Str × Res τ)}, HdB K F0 H0 KP Z env cs l hs → KP (pickR sub c hs) → wMany K W Z l (.ref (He.ga K c)) none σ H
  | _, _, .nil, h => L.exc c F H σ env h hT S2
  | _, _, .cons (x := x) (mh := mh) (hs := hs) hx hb r, h => by
    have h : KP (if sub c x = true then mh else pickR sub c hs) := h
    refine ⟨sub c x, C.exm c hc x hx, fun q a ha => ?_, fun q => ?_⟩
    · rw [if_pos q] at h
      exact hb a _ F H σ S2 h
    · rw [if_neg (by rw [q]; decide)] at h
      exact HdB.go L hT C hc S2 r h
theorem blk_tryM {S : Type} {cs : List Str} {sub : Str → Str → Bool} {l : List (Value × (Addr → Value → Option Addr → TS))} {tb : WX → TS} {envS : S → En} {m : Res (Fall S τ)} {rest : S → Res τ} {hs : List (Str × Res τ)}
    (L : Lk K W F0 H0 rt PT KP) (hT : PT env) (C : Cls K cs sub)
    (hb : ∀ (W' : WX) (KP' : Res (Fall S τ) → Prop), Lk K W' F0 H0 rt (fun e => EnLe e env) KP' → (∀ s, Blk K F0 H0 KP' Z.nx (envS s) (.ok (.go s))) → Blk K F0 H0 KP' (tb W' Z) env m)
    (hh : HdB K F0 H0 KP Z env cs l hs)
    (hr : ∀ s, Blk K F0 H0 KP Z.nx (envS s) (rest s)) (hZ : Z.rt = rt := by rfl) :
    Blk K F0 H0 KP (tTryM K l W tb Z) env (tryM (fun c => decide (c ∈ cs)) sub m rest hs) := fun F H σ S1 h => by
  subst hZ
  refine hb (wMany K W Z l) (fun r => KP (tryM (fun c => decide (c ∈ cs)) sub r rest hs)) ⟨fun y h v F H a r => ?_, fun c F H σ env' h p S' => ?_, L.no⟩ (fun s F H σ S h => hr s F H σ S h) F H σ S1 h
  · cases y with
    | go s => exact (no_go r).elim
    | back y => exact fun q => L.ok y h v F H a r q
  · have h : KP (if decide (c ∈ cs) = true then pickR sub c hs else .stuck) := h
    by_cases hc : c ∈ cs
    · rw [if_pos (decide_eq_true hc)] at h
      exact HdB.go L hT C hc (S'.weak p) hh h
    · rw [if_neg (by rw [decide_eq_false hc]; decide)] at h
      exact (L.no h).elim
end
end Mi
set_option maxHeartbeats 1000000
namespace Mi
open PySem PySem.Spec L2
/-! ### zip of two lists; texts in the text of an error -/
theorem pi_zipK {X : Cx} {K : PySem.W.Frag} {e e2 : Expr} {ta : TA} {p pos tpos : Pos} {elts : List Expr} {kk : Nat} (h : X.K = K) (hg : Gl X "zip") (hm : X.mg "zip" = none) (ha : PA X [e, e2] ta)
    (hs : starEach [e, e2] X.env = (false, eval e X.env) :: starEach [e2] X.env := by rfl) (hpl : (backTo pos (starEach [e2] X.env)).any (·.1) = false := by rfl) :
    PI X (.Tuple elts kk tpos) (.Call (.Name "zip" p) [e, e2] [] pos) (iZip K ta) := by
  subst h; exact pi_zip hg hm ha hs hpl
section
variable {K : PySem.W.Frag} {W : WX} {F0 H0 F H F' H' F1 : Hp} {env : En} {α β : Type} [ToD α] [ToD β]
theorem js_zip {a b : Addr} {vs ws : List V} {xs ys : List D} (h1 : SqL K F a vs) (r1 : Reps K F xs vs) (h2 : SqL K F b ws) (r2 : Reps K F ys ws) : JS K F (Itz K a b) ((xs.zip ys).map fun q => D.tup [q.1, q.2]) := by
  have n1 := r1.length
  have n2 := r2.length
  have hn : ((xs.zip ys).map fun q => D.tup [q.1, q.2]).length = min vs.length ws.length := by rw [List.length_map, List.length_zip, n1, n2]
  refine ⟨fun i H e hi => ?_, fun i H e hi => ?_, fun i H v H' F1 e1 e2 hi hy => ?_⟩
  · rw [hn] at hi
    exact ⟨vs, ws, vs[i]'(by omega), ws[i]'(by omega), Evl.ex_l e h1, Evl.ex_l e h2, List.getElem?_eq_getElem (by omega), List.getElem?_eq_getElem (by omega)⟩
  · rw [hn] at hi
    exact ⟨vs, ws, Evl.ex_l e h1, Evl.ex_l e h2, by omega⟩
  · rw [hn] at hi
    obtain ⟨T, x, y, rfl, hT, rfl, f1, f2⟩ := hy
    have g1 := f1 vs (Evl.ex_l (e1.trans e2) h1)
    have g2 := f2 ws (Evl.ex_l (e1.trans e2) h2)
    obtain ⟨w1, q1, q2⟩ := r1.get (i := i) (e := xs[i]'(by omega)) (List.getElem?_eq_getElem (by omega))
    obtain ⟨w2, q3, q4⟩ := r2.get (i := i) (e := ys[i]'(by omega)) (List.getElem?_eq_getElem (by omega))
    rw [g1] at q1; cases q1
    rw [g2] at q3; cases q3
    have a2 : Adv F1 H (upd F1 T (.tup [x, y])) (upd H T (.tup [x, y])) := Adv.new e2 hT
    refine ⟨_, D.tup [xs[i]'(by omega), ys[i]'(by omega)], a2, ?_, ?_⟩
    · rw [List.getElem?_map, List.getElem?_eq_getElem (by rw [List.length_zip]; omega), List.getElem_zip]; rfl
    · have rr : Reps K F1 [xs[i]'(by omega), ys[i]'(by omega)] [x, y] := ⟨x, [y], rfl, Rep.mono e1 _ _ q2, y, [], rfl, Rep.mono e1 _ _ q4, rfl⟩
      exact ⟨T, _, rfl, .inl (.inl upd_same), Reps.mono a2.f _ _ rr⟩
theorem zip_toD : ∀ (xs : List α) (ys : List β), (List.zipWith T2.mk xs ys).map toD = ((xs.map toD).zip (ys.map toD)).map fun q => D.tup [q.1, q.2]
  | [], _ => by simp
  | _ :: _, [] => by simp
  | x :: r, y :: s => by
    show toD (T2.mk x y) :: (List.zipWith T2.mk r s).map toD = _
    rw [zip_toD r s]; rfl
theorem ei_zip {t : TA} {m : Res (List α × List β × Unit)} (h : EvA K W env t m) : EvI K W env (iZip K t) (m.bind fun y => .ok (List.zipWith T2.mk y.1 y.2.1)) := fun F0 H0 F H σ R S k => by
  refine h F0 H0 F H σ _ S ?_
  cases m with
  | ok y =>
    obtain ⟨xs, ys, u⟩ := y
    intro vs F1 H1 a r
    obtain ⟨v, r', rfl, ra, w, r'', rfl, rb, rfl⟩ := r
    obtain ⟨p, vs, rfl, h1, h2⟩ := ra
    obtain ⟨q, ws, rfl, h3, h4⟩ := rb
    refine ⟨p, q, vs, ws, rfl, sq_ex a.in_ h1, sq_ex a.in_ h3, ?_⟩
    have k : KI K W F H σ R (.ok (List.zipWith T2.mk xs ys)) := k
    refine k _ F1 H1 a ?_
    rw [zip_toD]
    exact js_zip (Evl.sq_of h1) h2 (Evl.sq_of h3) h4
  | exc c => exact k
  | stuck => exact k.elim
/-- a part of a slice, as the def works it out -/
def KPt (K : PySem.W.Frag) (W : WX) (F H : Hp) (σ : L2.St) (Q : Option Int → Hp → Prop) : Res (Option Int) → Prop
  | .ok o => ∀ F' H', Adv F H F' H' → Q o H'
  | .exc c => ∀ F' H', Adv F H F' H' → W (.ref (He.ga K c)) none σ H'
  | .stuck => False
def EvPt (K : PySem.W.Frag) (W : WX) (env : En) (tp : TO) (m : Res (Option Int)) : Prop := ∀ F0 H0 F H σ Q, Sl K F0 H0 F H σ env → KPt K W F H σ Q m → tp σ H Q
theorem ept_none : EvPt K W env tNoPart (.ok none) := fun F0 H0 F H σ Q S k => k F H (Adv.refl S.ex)
theorem ept_some {te : TE} {m : Res Int} (h : EvX K W env te m) : EvPt K W env (tPart te) (m.bind fun i => .ok (some i)) := fun F0 H0 F H σ Q S k => by
  refine h F0 H0 F H σ _ S ?_
  cases m with
  | ok i =>
    intro v F1 H1 a r
    exact ⟨i, r, k F1 H1 a⟩
  | exc c => exact k
  | stuck => exact k.elim
theorem en_sliceV {te : TE} {m : Res (List α)} {ml mh : Res (Option Int)} {tl th : TO} (h : EvX K W env te m) (hl : EvPt K W env tl ml) (hh : EvPt K W env th mh) :
    EvN K W env (tSl (rSlL K) te tl th) (m.bind fun xs => ml.bind fun lo => mh.bind fun hi => .ok (cutL xs lo hi)) := fun F0 H0 F H σ Q S k => by
  refine h F0 H0 F H σ _ S ?_
  cases m with
  | ok xs =>
    intro v F1 H1 a r
    obtain ⟨p, vs, rfl, h1, h2⟩ := r
    refine hl F0 H0 F1 H1 σ _ (S.step a) ?_
    cases ml with
    | ok lo =>
      intro F2 H2 a2
      refine hh F0 H0 F2 H2 σ _ ((S.step a).step a2) ?_
      cases mh with
      | ok hi =>
        intro F3 H3 a3
        have b := (a.trans a2).trans a3
        refine ⟨p, vs, rfl, sq_ex a3.in_ ((a2.f.trans a3.f) _ _ h1), fun l hl => ?_⟩
        refine k l _ F3 _ (b.trans (Adv.newO a3.in_ hl)) (Evl.fresh_back b.h hl) (none_of_ex a3.in_ hl) upd_same ?_
        have e : xs.length = vs.length := by have := h2.length; rwa [List.length_map] at this
        unfold cutV
        show Reps K F3 ((cutL xs lo hi).map toD) _
        unfold cutL
        rw [List.map_take, List.map_drop, e]
        exact Reps.mono (a2.f.trans a3.f) _ _ (Reps.take _ (Reps.drop _ h2))
      | exc c => exact fun F3 H3 a3 => k F3 H3 ((a.trans a2).trans a3)
      | stuck => exact k.elim
    | exc c => exact fun F2 H2 a2 => k F2 H2 (a.trans a2)
    | stuck => exact k.elim
  | exc c => exact k
  | stuck => exact k.elim
end
end Mi
set_option maxHeartbeats 4000000
namespace Mi
open PySem PySem.Spec L2
open Evl (Ex)
section
open PySem.W PySem.Calls PyProof.Rows RT
/-- list(reversed(x)), x a list: a new list -/
def tLRev (K : PySem.W.Frag) (te : TE) : TE := fun σ H Q => te σ H fun v H1 => ∃ (a : Addr) (xs : List V), v = .ref a ∧ SqL K H1 a xs ∧ ∀ q, H1 q = none → Q (.ref q) (upd H1 q (.lst xs.reverse))
variable {K : PySem.W.Frag} {W : WX} {env : En} {te : TE} {α : Type} [ToD α]
end
end Mi
set_option maxHeartbeats 1000000
namespace Mi
open PySem PySem.Spec L2
open Evl (Ex)
/-! ### the hook with addresses that are given -/
def lookZ (fa : List He.Fa) (fn : List He.DefD) (ts : List He.Tab) (ss : List SupD) (ex : PySem.W.Frag → Bool) (K : PySem.W.Frag) : AlY :=
  (He.obsT fa fn ts K, ex K && ss.all (SupD.ok K), ss.map fun d => fnC K (d.ad K))
def obsZ (as : List Addr) (fa : List He.Fa) (fn : List He.DefD) (ts : List He.Tab) (ss : List SupD) (ex : PySem.W.Frag → Bool) (g : Addr → Option Obj) : AlY := lookZ fa fn ts ss ex (He.frT g as)
theorem saysZ_of {fa : List He.Fa} {fn : List He.DefD} {ts : List He.Tab} {ss : List SupD} {ex : PySem.W.Frag → Bool} {w : World} {K : PySem.W.Frag} (e : lookZ fa fn ts ss ex K = valY fn ts ss w) : SaysY fa fn ts ss ex w K := by
  have e2 : (ex K && ss.all (SupD.ok K)) = true := congrArg (fun z : AlY => z.2.1) e
  have e3 : (ss.map fun d => fnC K (d.ad K)) = ss.map SupD.val := congrArg (fun z : AlY => z.2.2) e
  obtain ⟨h1, h2⟩ := He.ba e2
  exact ⟨congrArg (fun z : AlY => z.1) e, h1, fun d hd => supD_ok (List.map_inj_left.mp e3 d hd) (List.all_eq_true.mp h2 d hd)⟩
def hookZ (as : List Addr) (fa : List He.Fa) (fn : List He.DefD) (ts : List He.Tab) (ss : List SupD) (ex : PySem.W.Frag → Bool) : PySem.W.Hook where
  α := AlY
  obs := fun s => obsZ as fa fn ts ss ex s.heap.get?
  val := fun w => valY fn ts ss w
  says := fun w h => ∃ K : PySem.W.Frag, K.In h ∧ SaysY fa fn ts ss ex w K
  of := fun _ _ e => ⟨_, He.frT_in, saysZ_of e⟩
  keeps := fun _ _ _ ⟨K, hK, c⟩ k => ⟨K, PySem.W.Frag.In.keeps hK k, c⟩
theorem obsZ_eq {as : List Addr} {fa : List He.Fa} {fn : List He.DefD} {ts : List He.Tab} {ss : List SupD} {ex : PySem.W.Frag → Bool} {g : Addr → Option Obj} {s : Shared} (h : ∀ a, g a = s.heap.get? a) : obsZ as fa fn ts ss ex g = (hookZ as fa fn ts ss ex).obs s := by
  have e : g = s.heap.get? := funext h
  rw [e] <;> rfl
end Mi
set_option maxHeartbeats 1000000
namespace Mi
open PySem PySem.Spec L2
open Evl (Ex)
section
variable {K : PySem.W.Frag} {W : WX} {env : En} {te : TE} {α β : Type} [ToD α] [ToD β]
end
end Mi
set_option maxHeartbeats 1000000
namespace Mi
open PySem PySem.Spec L2
open PyProof.Rows
open Evl (Ex)
/-! ### calls with keywords, and with keyword-only parameters that lack -/
def tCallNS (n m : Nat) (sp : Sp) (gV : List V → List V → List V) (E : L2.St → XK) (t tk : TA) : TE := fun σ H Q => t σ H fun vs H1 => tk σ H1 fun zs H2 => vs.length = n ∧ zs.length = m ∧ sp (gV vs zs) H2 Q (E σ)
section
variable {X : Cx} {CX : CXT} {k n : Nat} {f : Addr} {fd : FuncData} {ps ks : List Str} {sp : Sp} {E : L2.St → XK} {x : Str} {p pos : Pos} {e : Expr} {es : List Expr} {kws : List Keyword} {t tk : TA} {g : List Value → List Value → List Value} {gV : List V → List V → List V}
end
section
variable {K : PySem.W.Frag} {W : WX} {env : En} {te : TE} {α β : Type} [ToD α] [ToD β]
/-- two tuples joined -/
theorem opx_catT {γ : Type} [ToD γ] {g : α → β → γ} (hf : ∀ (x : α) (y : β), ∃ xs ys, toD x = .tup xs ∧ toD y = .tup ys ∧ xs ≠ [] ∧ ys ≠ [] ∧ xs.length + ys.length ≤ 100000 ∧ toD (g x y) = .tup (xs ++ ys)) : OpX K (rCatT K) (fun (x : α) (y : β) => .ok (g x y)) := fun F H x y v u Q e h1 h2 k => by
  obtain ⟨xs, ys, e1, e2, n1, n2, hl, e3⟩ := hf x y
  rw [e1] at h1
  rw [e2] at h2
  obtain ⟨a, vs, rfl, s1, r1⟩ := h1
  obtain ⟨b, us, rfl, s2, r2⟩ := h2
  have l1 := r1.length
  have l2 := r2.length
  refine ⟨a, b, vs, us, rfl, rfl, Evl.ex_t e s1, Evl.ex_t e s2, ?_, ?_, ?_, ?_⟩
  · intro z; subst z; exact n1 (List.length_eq_zero_iff.mp l1)
  · rw [← l1, ← l2]; exact Evl.sz_of hl
  · intro z; subst z; exact absurd (List.length_eq_zero_iff.mp l2) n2
  · intro _ p hp
    have a2 : Adv F H (upd F p (.tup (vs ++ us))) (upd H p (.tup (vs ++ us))) := Adv.new e hp
    refine k _ _ _ a2 ?_
    rw [e3]
    exact ⟨p, _, rfl, .inl (.inl upd_same), Reps.mono a2.f _ _ (Reps.append r1 r2)⟩
end
/-- a value of any kind read as a pair of integers, or None -/
def D.asP2 : D → Res (Option (T2 Int Int))
  | .non => .ok none
  | .tup [.int x, .int y] => .ok (some ⟨x, y⟩)
  | _ => .stuck
def D.asTI : D → Res (T2 Int Int)
  | .tup [.int x, .int y] => .ok ⟨x, y⟩
  | _ => .stuck
/-! ### min and max of a pair of integers -/
def rMinP (K : PySem.W.Frag) : List V → Hp → VK → Prop := fun vs H Q => ∃ (a : Addr) (i j : Int), vs = [V.ref a] ∧ SqT K H a [.int i, .int j] ∧ Q (.int (min i j)) H
def rMaxP (K : PySem.W.Frag) : List V → Hp → VK → Prop := fun vs H Q => ∃ (a : Addr) (i j : Int), vs = [V.ref a] ∧ SqT K H a [.int i, .int j] ∧ Q (.int (max i j)) H
section
variable {X : Cx}
end
/-! ### max(xs, default=d) -/
def lmax0 (ns : List Int) (d : Int) : Int := match ns with | [] => d | y :: ys => ys.foldl max y
def tMaxD (K : PySem.W.Frag) (t tk : TA) : TE := fun σ H Q => t σ H fun vs H1 => tk σ H1 fun zs H2 => ∃ (a : Addr) (ns : List Int) (d : Int), vs = [V.ref a] ∧ zs = [V.int d] ∧ SqL K H2 a (ns.map V.int) ∧ Q (.int (lmax0 ns d)) H2
theorem hold_ints {h : Heap} : ∀ {ns : List Int} {its : List Value}, Vals (ns.map V.int) its → PySem.W.HoldAll h its ns
  | [], its, r => by cases r; exact .nil
  | n :: ns, its, r => by
    cases r with
    | cons r1 r2 =>
      obtain ⟨t, rfl⟩ := r1
      exact .cons (PySem.W.holds_int n t) (hold_ints r2)
theorem maxOf_int (y : Int) (ys : List Int) : PySem.W.maxOf y ys = ys.foldl max y := by
  unfold PySem.W.maxOf
  have e : (fun (a y : Int) => if PySem.W.DatumOrd.lt a y = true then y else a) = max := by
    funext a b
    show (if decide (a < b) = true then b else a) = max a b
    by_cases c : a < b
    · rw [if_pos (decide_eq_true c)]; omega
    · rw [if_neg (by rw [decide_eq_false c]; decide)]; omega
  rw [e]
section
variable {X : Cx} {p pos : Pos} {e : Expr} {kws : List Keyword} {t tk : TA}
theorem pe_maxD (hc : X.calm = true) (hu : X.A.units + 64 < cLine) (hg : Gl X "max") (hm : X.mg "max" = none) (ha : PA X [e] t) (hkw : PK X kws tk)
    (hall : (backToKw pos (keywordEach kws X.env)).all (·.1.isSome) = true := by rfl) (hks : (backToKw pos (keywordEach kws X.env)).filterMap (·.1) = [("default" : Str)] := by rfl)
    (he : starEach [e] X.env = (false, eval e X.env) :: starEach [] X.env := by rfl)
    (hpl : ((backTo pos (starEach [e] X.env)).any (·.1) || (backToKw pos (keywordEach kws X.env)).any (·.1.isNone)) = false := by rfl) :
    PE X (.Call (.Name "max" p) [e] kws pos) (tMaxD X.K t tk) := by
  refine ⟨fun pins s σ H Q I h => ?_⟩
  refine wpAny_Call_Name_kw (ld_blt I hg hm (u := .builtin "max") (by decide +kernel) ?_)
  refine PySem.W.callWith_of (P := fun _ => True) hpl (fun _ _ => ⟨.machine, .inr (.inl rfl), PySem.W.Looks.of_pure rfl⟩) (PyProof.Rows.evalArgs_kw2 hall (thn (ha.run pos pins s σ H _ I h) fun us s1 ⟨vs, H1, I1, r, q⟩ => ?_) he)
  refine thn (hkw.run pos pins s1 σ H1 _ I1 q) fun ws s2 ⟨zs, H2, I2, rz, a, ns, d, e1, e2, hs, q2⟩ => ⟨trivial, ?_⟩
  subst e1 e2
  rw [hks]
  obtain ⟨its, rv, hl, _⟩ := I2.list hs
  obtain ⟨u, rfl, ⟨t', rfl⟩⟩ := vals1 rz
  show wpAny _ _ (call (.builtin "max") ([] ++ us) [("default", Value.int d t')]) _ _ s2
  rw [List.nil_append, Vals.ref1 r]
  refine PySem.W.max_list_datum_default (I2.ok.hd hc) hl.isList (xs := ns) (by simpa using hold_ints rv) (show X.A.units + 1 + 0 < cLine by omega) (fun en h' tk kp => ?_) fun y ys i v h' tk en hv hh kp => ?_
  · subst en
    exact ⟨.int d, H2, I2.kept kp, ⟨t', rfl⟩, q2⟩
  · subst en
    obtain ⟨t2, rfl⟩ := PySem.W.int_of_holds hh
    refine ⟨.int (lmax0 (y :: ys) d), H2, I2.kept kp, ⟨t2, ?_⟩, q2⟩
    congr 1
    exact maxOf_int y ys
end
theorem ev_maxD {K : PySem.W.Frag} {W : WX} {env : En} {t tk : TA} {m : Res (List Int × Unit)} {m2 : Res (Int × Unit)} (ha : EvA K W env t m) (hk : EvA K W env tk m2) :
    EvX K W env (tMaxD K t tk) (m.bind fun x => m2.bind fun z => .ok (lmax0 x.1 z.1)) := fun F0 H0 F H σ Q S k => by
  refine ha F0 H0 F H σ _ S ?_
  cases m with
  | ok x =>
    intro vs F1 H1 a1 r1
    have k1 : KE K W F H σ Q (m2.bind fun z => .ok (lmax0 x.1 z.1)) := k
    refine hk F0 H0 F1 H1 σ _ (S.step a1) ?_
    cases m2 with
    | ok z =>
      intro zs F2 H2 a2 r2
      obtain ⟨v, r, rfl, ⟨a, ws, rfl, hl, hr⟩, h2⟩ := r1
      cases (show r = [] from h2)
      obtain ⟨v2, r', rfl, h3, h4⟩ := r2
      cases (show r' = [] from h4)
      have e2 : ws = x.1.map V.int := Reps.ints hr
      subst e2
      refine ⟨a, x.1, z.1, rfl, by rw [show v2 = V.int z.1 from h3], sq_ex a2.in_ (a2.f _ _ hl), ?_⟩
      exact k1 _ F2 H2 (a1.trans a2) rfl
    | exc c =>
      have k1 : KE K W F H σ Q (.exc c : Res Int) := k1
      exact fun F' H' a' => k1 F' H' (a1.trans a')
    | stuck => exact k1.elim
  | exc c => exact k
  | stuck => exact k.elim
/-- the target of a comprehension's for is a tuple -/
theorem pg_tupK {X : Cx} {K : PySem.W.Frag} {es : List Expr} {k : Nat} {pos : Pos} {t : TGs} {n : Nat} (hK : X.K = K) (hc : X.calm = true) (h : PGs X es t)
    (hn : (assignEach es X.env).length = n := by rfl) (hst : (assignEach es X.env).findIdx? (·.1) = none := by rfl) : PG X (.Tuple es k pos) (gTup K n t) := by
  subst hK
  exact pg_tup hc h hn hst
end Mi
set_option maxHeartbeats 1000000
namespace Mi
open PySem PySem.Spec L2
open Evl (Ex)
/-! ### two fors in a comprehension, without ifs -/
def compL2 {α β γ : Type} (it : α → Res (List β)) (el : α → β → Res γ) : List α → Res (List γ)
  | [] => .ok []
  | x :: xs => (it x).bind fun ys => (mapL (el x) ys).bind fun zs => (compL2 it el xs).bind fun r => .ok (zs ++ r)
/-- the owned slots of an environment stand in another one, outside of ws -/
def OwnIn (e' e : En) (ws : List Nat) : Prop := ∀ (i : Nat) (sk : Sk), e'[i]? = some (some sk) → sk.own = true → e[i]? = some (some sk) ∧ i ∉ ws
theorem own_unset {e : En} {ws : List Nat} : OwnIn (unset ws e) e ws := fun i sk h _ => unset_get h
theorem own_stE {e e0 : En} {ws : List Nat} {i : Nat} {x : D} (h : OwnIn e e0 ws) : OwnIn (stE i x e) e0 ws := fun j sk h1 h2 => by
  rcases set_get h1 with ⟨_, z⟩ | ⟨_, z⟩
  · cases z; cases h2
  · exact h j sk z h2
section
variable {K : PySem.W.Frag} {W : WX} {env : En} {te : TE} {α β γ : Type} [ToD α] [ToD β] [ToD γ]
end
/-- the second for of a comprehension walks a list, a tuple -/
theorem pi_listK {X : Cx} {K : PySem.W.Frag} {tg l : Expr} {tl : TE} (hK : X.K = K) (hl : PE X l tl) : PI X tg l (iList K tl) := by
  subst hK
  exact pi_list hl
theorem gx_weak {K : PySem.W.Frag} {g : TG} {x : D} {f : En → En} {ws0 ws : List Nat} (h : GX K g x f ws0) (hs : ∀ j ∈ ws0, j ∈ ws) : GX K g x f ws := fun F0 H0 F H σ env v T S r k =>
  h F0 H0 F H σ env v T S r fun σ' S' l o => k σ' S' l fun j hj => o j fun z => hj (hs j z)
end Mi
set_option maxHeartbeats 1000000
namespace Mi
open PySem PySem.Spec L2
open Evl (Ex)
/-! ### an owned list that is read while something flat is worked out -/
class Flat (α : Type) [ToD α] : Prop where
  ok : ∀ (x : α) (K : PySem.W.Frag) (F F' : Hp) (v : V), Rep K F (toD x) v → Rep K F' (toD x) v
instance : Flat Int := ⟨fun _ _ _ _ _ h => h⟩
instance : Flat Bool := ⟨fun _ _ _ _ _ h => h⟩
instance : Flat Str := ⟨fun _ _ _ _ _ h => h⟩
instance : Flat Unit := ⟨fun _ _ _ _ _ h => h⟩
section
variable {K : PySem.W.Frag} {W : WX} {env : En} {te : TE} {α : Type} [ToD α]
end
/-! ### wider tuples, lists of a known length -/
structure Lt2 (α : Type) where
  a : α
  b : α
structure Lt3 (α : Type) where
  a : α
  b : α
  c : α
structure Lt8 (α : Type) where
  a : α
  b : α
  c : α
  e : α
  f : α
  g : α
  h : α
  i : α
instance {α : Type} [ToD α] : ToD (Lt2 α) := ⟨fun x => .lst [ToD.d x.a, ToD.d x.b]⟩
instance {α : Type} [ToD α] : ToD (Lt3 α) := ⟨fun x => .lst [ToD.d x.a, ToD.d x.b, ToD.d x.c]⟩
instance {α : Type} [ToD α] : ToD (Lt8 α) := ⟨fun x => .lst [ToD.d x.a, ToD.d x.b, ToD.d x.c, ToD.d x.e, ToD.d x.f, ToD.d x.g, ToD.d x.h, ToD.d x.i]⟩
def lt2 {α : Type} : List α → Res (Lt2 α)
  | [a, b] => .ok ⟨a, b⟩
  | _ => .stuck
def lt3 {α : Type} : List α → Res (Lt3 α)
  | [a, b, c] => .ok ⟨a, b, c⟩
  | _ => .stuck
def lt8 {α : Type} : List α → Res (Lt8 α)
  | [a, b, c, e, f, g, h, i] => .ok ⟨a, b, c, e, f, g, h, i⟩
  | _ => .stuck
section
variable {α : Type} [ToD α]
end
/-! ### dicts with text keys that a def makes -/
structure Dc (α : Type) where
  kvs : List (Str × α)
instance {α : Type} [ToD α] : ToD (Dc α) := ⟨fun x => .dct (x.kvs.map (·.1)) (x.kvs.map fun p => toD p.2)⟩
def EvPr (K : PySem.W.Frag) (W : WX) (env : En) (trs : List (TE × TE)) (ks : List Str) {β : Type} [ToDs β] (m : Res β) : Prop :=
  ∀ F0 H0 F H σ (Q : List (V × V) → Hp → Prop), Sl K F0 H0 F H σ env → KA K W F H σ (fun vs H' => Q ((ks.map V.str).zip vs) H') m → tPairs trs σ H Q
section
variable {K : PySem.W.Frag} {W : WX} {env : En} {te : TE} {α : Type} [ToD α] {trs : List (TE × TE)} {ks : List Str}
/-- a dict of this kind, read -/
def cget {α : Type} (x : Dc α) (z : Str) : Res α := match x.kvs.lookup z with
  | some y => .ok y
  | none => .stuck
end
/-! ### s[i] of a text -/
noncomputable def sidx (x : Str) (i : Int) : Res Str := match atI x.cps.toList i with
  | some c => .need (x.length < 16777216) (.ok ⟨#[c]⟩)
  | none => .stuck
/-! ### x.insert(0, e) of an owned list -/
def rInsert : V → List V → Hp → VK → Prop := fun x vs H Q => ∃ (l : Addr) (xs : List V) (i : Int) (y : V), x = .ref l ∧ vs = [.int i, y] ∧ H l = some (.lst xs) ∧ xs.length < sizeLine ∧ 0 ≤ i ∧ i < 2 ^ 63 ∧
    Q .non (upd H l (.lst (xs.take i.toNat ++ [y] ++ xs.drop i.toNat)))
section
variable {K : PySem.W.Frag} {W : WX} {F0 H0 : Hp} {rt : VK} {PT : En → Prop} {τ β : Type} [ToD τ] [ToR τ] [ToD β] {KP : Res τ → Prop} {env : En} {te : TE} {Z : Ends}
end
end Mi
set_option maxHeartbeats 1000000
namespace Mi
open PySem PySem.Spec L2
open Evl (Ex)
/-! ### built-in functions that the module imports -/
def biB (K : PySem.W.Frag) (x : Str) (id : String) : Bool := He.eqO (PySem.W.nsIn K mainGlobals x) (some (some (.builtin id)))
def rSqrt : List V → Hp → VK → Prop := fun xs H Q => ∃ i : Int, xs = [.int i] ∧ 0 ≤ i ∧ i.toNat.log2 ≤ 4000 ∧ Q (.int ((Float64.isqrt i.toNat : Nat) : Int)) H
end Mi
set_option maxHeartbeats 1000000
namespace Mi
open PySem PySem.Spec L2
open Evl (Ex)
/-! ### range(i, j, c), c above 0 -/
def stepN (i j c : Int) : Nat := if i < j then ((j - i - 1) / c + 1).toNat else 0
def pyStep (i j c : Int) : List Int := (List.range (stepN i j c)).map fun (a : Nat) => i + (a : Int) * c
section
variable {K : PySem.W.Frag} {W : WX} {F : Hp} {env : En} {ta tb tc : TE}
end
end Mi
set_option maxHeartbeats 1000000
namespace Mi
open PySem PySem.Spec L2
open Evl (Ex)
/-! ### zip of a list and a tuple -/
def ItzM (K : PySem.W.Frag) (a b : Addr) (n1 n2 : Nat) : It :=
  ⟨fun k G => ∃ (us ws : List V) (u v : V), SqL K G a us ∧ SqT K G b ws ∧ us[k]? = some u ∧ ws[k]? = some v ∧ us.length = n1 ∧ ws.length = n2,
    fun k G r G' => ∃ p u v, r = .ref p ∧ G p = none ∧ G' = upd G p (.tup [u, v]) ∧ (∀ us, SqL K G a us → us[k]? = some u) ∧ ∀ ws, SqT K G b ws → ws[k]? = some v,
    fun k G => ∃ us ws : List V, SqL K G a us ∧ SqT K G b ws ∧ us.length = n1 ∧ ws.length = n2 ∧ (n1 ≤ k ∨ n2 ≤ k)⟩
/-- the cells of such a zip -/
abbrev cellsZ (n : Nat) : List Addr := [n + 4, n + 2, n + 3, n, n + 1]
/-- the heap behind zip(list, tuple) -/
def laidZ (g : Heap) (a b : Addr) : Heap :=
  let n := g.objs.size
  ((((g.push { cls := .type "list_iterator", data := .fields #[.ref a, .int 0 0] }).push { cls := .type "tuple_iterator", data := .fields #[.ref b, .int 0 0] }).push { cls := .type "tuple", data := .seq #[.ref n, .ref (n + 1)] }).push
    { cls := .type "tuple", data := .seq #[.none, .none] }).push { cls := .type "zip", data := .fields #[.none, .bool false, .bool false, .ref (n + 2), .ref (n + 3)] }
def iZipM (K : PySem.W.Frag) (ta : TA) : TI := fun σ H R => ta σ H fun vs G => ∃ a b us ws, vs = [V.ref a, V.ref b] ∧ SqL K G a us ∧ SqT K G b ws ∧ R (ItzM K a b us.length ws.length) G
section
variable {K : PySem.W.Frag} {W : WX} {F : Hp} {env : En} {α β : Type} [ToD α] [ToD β]
end
end Mi
set_option maxHeartbeats 1000000
namespace Mi
open PySem PySem.Spec L2
open Evl (Ex)
/-! ### defs that give a new list -/
structure Nw (α : Type) where
  xs : List α
instance {α : Type} [ToD α] : ToD (Nw α) := ⟨fun z => .lst (z.xs.map ToD.d)⟩
instance {α : Type} : ToR (Nw α) := ⟨fun _ _ v H0 _ _ => ∃ p, v = .ref p ∧ H0 p = none⟩
section
variable {K : PySem.W.Frag} {W : WX} {F0 H0 F H : Hp} {rt : VK} {PT : En → Prop} {env : En} {te : TE} {Z : Ends} {α : Type} [ToD α] {KP : Res (Nw α) → Prop}
def KW (K : PySem.W.Frag) (W : WX) (F H : Hp) (σ : L2.St) (Q : VK) : Res (Nw α) → Prop
  | .ok z => ∀ p F' H', Adv F H F' H' → Rep K F' (toD z) (.ref p) → H p = none → Q (.ref p) H'
  | .exc c => ∀ F' H', Adv F H F' H' → W (.ref (He.ga K c)) none σ H'
  | .stuck => False
def spW (K : PySem.W.Frag) {δ : Type} [ToDs δ] (f : δ → Res (Nw α)) : Sp := fun vs H Q E => ∃ F x, Ex F H ∧ Reps K F (ToDs.ds x) vs ∧ KW K (fun cls d _ H => E cls d H) F H [] Q (f x)
end
section
variable {P : Program} {w : World} {K : PySem.W.Frag} {mg : Str → Option Value} {base : Heap} {x qual : Str} {params : Arguments} {body : List Stmt} {scope : Scope} {dvs : List V} {kws : List (Str × V)} {f : Addr} {fd : FuncData}
end
end Mi
set_option maxHeartbeats 1000000
namespace Mi
open PySem PySem.Spec L2
open Evl (Ex)
/-! ### texts: a walk over the signs, ord, len, +, *, join -/
def chars (x : Str) : List Str := x.cps.toList.map fun c => ⟨#[c]⟩
section
variable {K : PySem.W.Frag} {W : WX} {F : Hp} {env : En} {te to : TE}
def rLenT : List V → Hp → VK → Prop := fun xs H Q => ∃ y : Str, xs = [V.str y] ∧ y.length ≤ 16777216 ∧ Q (.int y.length) H
def rAddT : R2 := fun x y H Q => ∃ i j, x = .str i ∧ y = .str j ∧ i.length + j.length ≤ sizeLine ∧ Q (.str (i ++ j)) H
def repS (x : Str) (n : Int) : Str := ⟨(List.replicate n.toNat x.cps).foldl (· ++ ·) #[]⟩
def RepT (x : Str) (k : Int) : Prop := -(2 ^ 63) ≤ k ∧ k < 2 ^ 63 ∧ x.length * k.toNat ≤ 16777216
theorem rep_size (c acc : Array Nat) : ∀ m : Nat, ((List.replicate m c).foldl (· ++ ·) acc).size = acc.size + c.size * m
  | 0 => rfl
  | m + 1 => by
    rw [List.replicate_succ, List.foldl_cons, rep_size c (acc ++ c) m, Array.size_append, Nat.mul_add, Nat.mul_one]; omega
def rRepT : R2 := fun x y H Q => ∃ i k, x = .str i ∧ y = .int k ∧ RepT i k ∧ Q (.str (repS i k)) H
theorem rep_one (x : Str) : repS x 1 = x := by
  cases x
  simp [repS]
theorem rep_neg (x : Str) {n : Int} (h : n < 1) : repS x n = Str.empty := by
  unfold repS
  rw [show n.toNat = 0 by omega]; rfl
theorem rep_nil (x : Str) (h : x.length = 0) (n : Int) : repS x n = x := by
  obtain ⟨c⟩ := x
  have e : c = #[] := Array.eq_empty_of_size_eq_zero h
  subst e
  unfold repS
  generalize n.toNat = m
  congr 1
  induction m with
  | zero => rfl
  | succ m ih => exact ih
theorem op_repT {X : Cx} : OpR X (binaryOp .Mult) rRepT := by
  intro pins s σ H x y v u Q I rx ry h
  obtain ⟨i, k, rfl, rfl, ⟨h1, h2, h3⟩, q⟩ := h
  obtain ⟨t, rfl⟩ := rx
  obtain ⟨t', rfl⟩ := ry
  have hf : (decide (k < -(2 ^ 63 : Int)) || decide (k ≥ 2 ^ 63)) = false := by
    rw [decide_eq_false (by omega), decide_eq_false (by omega)]; rfl
  refine PySem.P.mul_str hf (fun a _ => ?_) (fun _ _ => ?_) ?_
  · have e : ((i.length * k.toNat : Nat) : Int) = (i.length : Int) * k := by
      rw [Int.natCast_mul, Int.toNat_of_nonneg (by omega)]
    intro g
    have := (Int.le_ediv_iff_mul_le (a := (i.length : Int)) (b := 2 ^ 63 - 1) (show 0 < k by omega)).mpr (by omega)
    omega
  · show decide (i.length * k.toNat > sizeLine) = false
    rw [sizeLine_eq]
    exact decide_eq_false (by omega)
  · by_cases a : k < 1
    · rw [if_pos a]
      rw [rep_neg i a] at q
      exact ⟨by decide +kernel, .str _, H, I.tok _, ⟨_, rfl⟩, q⟩
    · rw [if_neg a]
      by_cases b : (k == 1 || i.length == 0) = true
      · rw [if_pos b]
        have e : repS i k = i := by
          rcases Bool.or_eq_true_iff.mp b with b | b
          · rw [eq_of_beq b]; exact rep_one i
          · exact rep_nil i (eq_of_beq b) k
        rw [e] at q
        exact ⟨.str _, H, I, ⟨_, rfl⟩, q⟩
      · rw [if_neg b]
        refine ⟨?_, .str _, H, I.tok _, ⟨_, rfl⟩, q⟩
        rw [sizeLine_eq]
        show ((List.replicate k.toNat i.cps).foldl (· ++ ·) #[]).size ≤ 16777216
        rw [rep_size]
        have : i.cps.size * k.toNat ≤ 16777216 := h3
        have z : (#[] : Array Nat).size = 0 := rfl
        omega
def rJoin (K : PySem.W.Frag) : V → List V → Hp → VK → Prop := fun x xs H Q => ∃ a p, ∃ ys : List Str, x = .str a ∧ xs = [.ref p] ∧ (SqL K H p (ys.map V.str) ∨ SqT K H p (ys.map V.str)) ∧
  (ys.map (·.length)).sum + ys.length * a.length ≤ 16777216 ∧ Q (.str (Txt.join a ys)) H
theorem cr_listof {X : Cx} (h : X.K = K) : CallR X (.type "list") (fun xs H Q => ∃ p ys, xs = [V.ref p] ∧ (SqL K H p ys ∨ SqT K H p ys) ∧ ∀ l, H l = none → Q (.ref l) (upd H l (.lst ys))) := by
  subst h; exact call_list_of
end
end Mi
set_option maxHeartbeats 1000000
namespace Mi
open PySem PySem.Spec L2
/-- short words for slots -/
abbrev iM {α : Type} [ToD α] (x : α) : Option Sk := some (.im (toD x))
abbrev oW {α : Type} [ToD α] (xs : List α) : Option Sk := some (.ow (xs.map toD))
/-! ### a tuple as the default of a keyword -/
def kwA (p : Str × Option Str) (x : Str) (K : PySem.W.Frag) : Addr := match K.lookup (He.fAd K p) with
  | some ⟨_, _, .func fd, _⟩ => (match fd.kwdefaults with
    | .ref D => (match PySem.W.nsIn K D x with
      | some (some (.ref b)) => b
      | _ => 0)
    | _ => 0)
  | _ => 0
def tupAB (K : PySem.W.Frag) (a : Addr) (vs : List V) : Bool := match K.lookup a with
  | some ⟨.type c, _, .seq its _, _⟩ => decide (c = "tuple") && (decide (its.size ≤ sizeLine) && He.relAll vs its.toList)
  | _ => false
/-! ### list(x) of a list or a tuple of ints -/
def D.asSeq : D → Res (List Int)
  | .lst i => intsOf i
  | .tup i => intsOf i
  | _ => .stuck
section
variable {K : PySem.W.Frag} {W : WX} {env : En} {te : TE}
end
/-! ### for x in reversed(a list) -/
section
open Evl (Ex)
variable {K : PySem.W.Frag} {W : WX} {F : Hp} {env : En} {te : TE} {α : Type} [ToD α]
end
end Mi
set_option maxHeartbeats 1000000
namespace Mi
open PySem PySem.W PySem.Calls PyProof.Rows HandSHeadRun
/-! ### the top in segments: what a piece of it gives within so many steps -/
section
variable (tb : String → Option Builtin) (p : Program) (w : World) (n0 : Nat) (ann : Option Value)
def Gs {α : Type} (B : List Frame) (lv : List Value → List Value) (m : Sem α) (s : Shared) (c : Code) (q : Pos) (n : Nat) (a : α) (s' : Shared) (c' : Code) (q' : Pos) : Prop :=
  ∀ (K : α → Sem Fin) (H : Value → Sem Fin) (N : Nat) (r : Shared), topRun tb p w n0 ann N s' ⟨K a, c', q', B⟩ = some r → topRun tb p w n0 ann (n + N) s ⟨m.wrap K H id lv, c, q, B⟩ = some r
end
section
variable {tb : String → Option Builtin} {p : Program} {w : World} {n0 : Nat} {ann : Option Value} {B : List Frame} {lv : List Value → List Value} {α β : Type} {s s1 s2 : Shared} {c c1 c2 : Code} {q q1 q2 : Pos} {n k : Nat}
theorem Gs.pure {a : α} : Gs tb p w n0 ann B lv (Pure.pure a : Sem α) s c q 0 a s c q := fun K H N r h => by
  rw [Nat.zero_add]; exact h
theorem Gs.mono {m : Sem α} {a : α} (h : Gs tb p w n0 ann B lv m s c q n a s1 c1 q1) (le : n ≤ k) : Gs tb p w n0 ann B lv m s c q k a s1 c1 q1 := fun K H N r hr => by
  have := h K H (N + (k - n)) r (topRun_mono _ _ _ _ _ hr)
  rw [show n + (N + (k - n)) = k + N by omega] at this
  exact this
theorem Gs.bind {m : Sem α} {f : α → Sem β} {a : α} {b : β} (h1 : Gs tb p w n0 ann B lv m s c q n a s1 c1 q1) (h2 : Gs tb p w n0 ann B lv (f a) s1 c1 q1 k b s2 c2 q2) : Gs tb p w n0 ann B lv (m >>= f) s c q (n + k) b s2 c2 q2 := fun K H N r h => by
  rw [Sem.bind_eq_wrap', Sem.wrap_wrap, Nat.add_assoc]
  exact h1 _ _ _ _ (h2 K H N r h)
theorem Gs.keep {m : Sem α} {a : α} {vs : List Value} (h : Gs tb p w n0 ann B (fun l => lv (vs ++ l)) m s c q n a s1 c1 q1) : Gs tb p w n0 ann B lv (m.keep vs) s c q n a s1 c1 q1 := fun K H N r hr => by
  rw [Sem.keep_eq_wrap, Sem.wrap_wrap]
  exact h K H N r hr
theorem step1 {t t' : Thread} {N : Nat} {r : Shared} (h0 : through t = false) (h1 : stepOk n0 ann t = true) (h2 : step (denote tb) p w s t = .go s1 t') (h : topRun tb p w n0 ann N s1 t' = some r) : topRun tb p w n0 ann (1 + N) s t = some r := by
  rw [Nat.add_comm]
  unfold topRun
  rw [h0, h1, h2]
  exact h
theorem Gs.rule {tag : String} : Gs tb p w n0 ann B lv (rule tag) s c q 1 () s c q := fun K H N r h =>
  step1 (by cases B <;> rfl) rfl (by obtain ⟨a, b, d, e, f⟩ := s; rfl) h
theorem Gs.standAt {pos : Pos} : Gs tb p w n0 ann B lv (standAt pos) s c q 1 () s c pos := fun K H N r h =>
  step1 (by cases B <;> rfl) rfl (by obtain ⟨a, b, d, e, f⟩ := s; rfl) h
theorem Gs.loadPart {a : Addr} {part : Option Value} {o : Obj} (ho : s.heap.get? a = some o) : Gs tb p w n0 ann B lv (loadPart a part) s c q 1 o s c q := fun K H N r h =>
  step1 (t' := ⟨K o, c, q, B⟩) (by cases B <;> rfl) rfl (by obtain ⟨a, b, d, e, f⟩ := s; simp only [PySem.loadPart, Sem.wrap, step, ho]; try rfl) h
theorem Gs.alloc {o : Obj} : Gs tb p w n0 ann B lv (alloc o) s c q 1 s.heap.objs.size { s with heap := s.heap.push o } c q := fun K H N r h =>
  step1 (by cases B <;> rfl) rfl (by obtain ⟨a, b, d, e, f⟩ := s; rfl) h
theorem Gs.point : Gs tb p w n0 ann B lv point s c q 1 () s c q := fun K H N r h =>
  step1 (by cases B <;> rfl) rfl (by obtain ⟨a, b, d, e, f⟩ := s; rfl) h
theorem Gs.forIn {x : List α} {f : α → β → Sem (ForInStep β)} {b : β} (h : ∀ y ∈ x, Gs tb p w n0 ann B lv (f y b) s c q n (.yield b) s c q) : Gs tb p w n0 ann B lv (forIn x b f) s c q (n * x.length) b s c q := by
  induction x with
  | nil => rw [List.forIn_nil]; exact Gs.pure
  | cons y r ih =>
    rw [List.forIn_cons, List.length_cons, Nat.mul_succ, Nat.add_comm]
    exact Gs.bind (h y List.mem_cons_self) (ih fun z hz => h z (List.mem_cons_of_mem _ hz))
/-- a piece that the kernel runs -/
theorem Gs.seg {m : Sem α} {res : α → Flow} {f : Flow} {a0 : α} (hB : splitAtGen B = none) (hf : ∀ a, res a = f → a = a0) (h : segRun tb p w n0 ann B.length n s ⟨m.wrap (fun a => .pure (.done (res a))) deadEnd id lv, c, q, B⟩ = some (f, s1, c1, q1)) :
    Gs tb p w n0 ann B lv m s c q n a0 s1 c1 q1 := fun K H N r hr => by
  obtain ⟨a, ha, k⟩ := seg_top (res := res) (K' := K) (H' := H) (gd := id) (lv := lv) hB n s ⟨m.wrap (fun a => .pure (.done (res a))) deadEnd id lv, c, q, B⟩ ⟨m.wrap K H id lv, c, q, B⟩ f s1 c1 q1 ⟨rfl, rfl, .inl ⟨rfl, rfl, m, rfl, rfl⟩⟩ h
  cases hf a ha
  exact k N r hr
end
/-! ### pieces that change nothing -/
def isRet : List Frame → Bool
  | .ret .. :: _ => true
  | _ => false
/-- a step that leaves the state as it is, and the place at the lowest level -/
def roOk (b : Nat) (t : Thread) : Bool := match t.cur with
  | .rule .. | .load .. | .loadIfAlive .. | .point .. | .ask .. | .stack .. | .handled .. | .call .. => true
  | .at .. => !(t.stack.length == b)
  | .pure _ | .raise _ => isRet t.stack && !(t.stack.length == b)
  | _ => false
inductive RoAt (B : List Frame) (c : Code) (q : Pos) : Thread → Prop
  | base (cur : Sem Fin) : RoAt B c q ⟨cur, c, q, B⟩
  | over (cur : Sem Fin) (code : Code) (pos : Pos) (fs : List Frame) (k : Result → Sem Fin) (h : Option Value) (g : Bool) (l kept : List Value) : RoAt B c q ⟨cur, code, pos, fs ++ .ret k h g l c q kept :: B⟩
theorem RoAt.deep {B : List Frame} {c : Code} {q : Pos} {t : Thread} (h : RoAt B c q t) (e : (t.stack.length == B.length) = true) : ∃ cur, t = ⟨cur, c, q, B⟩ := by
  cases h with
  | base cur => exact ⟨cur, rfl⟩
  | over cur code pos fs k h g l kept =>
    exfalso
    have := beq_iff_eq.mp e
    simp at this
    omega
section
variable {den : Code → Sem Fin} {p : Program} {w : World} {B : List Frame} {c : Code} {q : Pos}
theorem roAt_next {s s' : Shared} {t t' : Thread} (A : RoAt B c q t) (h : roOk B.length t = true) (hs : step den p w s t = .go s' t') : s' = s ∧ RoAt B c q t' := by
  obtain ⟨h1, h2, h3, h4, h5⟩ := s
  cases A with
  | base cur =>
    cases cur with
    | rule | point | ask | handled | stack => simp only [step, Step.go.injEq] at hs; obtain ⟨rfl, rfl⟩ := hs; exact ⟨rfl, .base _⟩
    | load a z k =>
      cases e : h1.get? a with
      | none => simp only [step, e] at hs; cases hs
      | some o => simp only [step, e, Step.go.injEq] at hs; obtain ⟨rfl, rfl⟩ := hs; exact ⟨rfl, .base _⟩
    | loadIfAlive a k => simp only [step, Step.go.injEq] at hs; obtain ⟨rfl, rfl⟩ := hs; exact ⟨rfl, .base _⟩
    | call cc hh gg ll kk =>
      simp only [step, Step.go.injEq] at hs; obtain ⟨rfl, rfl⟩ := hs
      exact ⟨rfl, .over _ _ _ [] _ _ _ _ _⟩
    | «at» z k => simp [roOk] at h
    | pure f => simp [roOk] at h
    | raise f => simp [roOk] at h
    | _ => cases h
  | over cur code pos fs k hd g l kept =>
    cases cur with
    | rule | point | ask | handled | stack | «at» => simp only [step, Step.go.injEq] at hs; obtain ⟨rfl, rfl⟩ := hs; exact ⟨rfl, .over ..⟩
    | load a z k =>
      cases e : h1.get? a with
      | none => simp only [step, e] at hs; cases hs
      | some o => simp only [step, e, Step.go.injEq] at hs; obtain ⟨rfl, rfl⟩ := hs; exact ⟨rfl, .over ..⟩
    | loadIfAlive a k => simp only [step, Step.go.injEq] at hs; obtain ⟨rfl, rfl⟩ := hs; exact ⟨rfl, .over ..⟩
    | call cc hh gg ll kk =>
      simp only [step, Step.go.injEq] at hs; obtain ⟨rfl, rfl⟩ := hs
      exact ⟨rfl, .over _ _ _ (_ :: fs) _ _ _ _ _⟩
    | pure f =>
      cases f with
      | done f =>
        cases fs with
        | nil => simp only [step, List.nil_append, Step.go.injEq] at hs; obtain ⟨rfl, rfl⟩ := hs; exact ⟨rfl, .base _⟩
        | cons F fs =>
          cases F with
          | ret => simp only [step, List.cons_append, Step.go.injEq] at hs; obtain ⟨rfl, rfl⟩ := hs; exact ⟨rfl, .over ..⟩
          | gen => simp [roOk, isRet] at h
      | again cc =>
        cases fs with
        | nil => rw [List.nil_append, PySem.W.step_again] at hs; simp only [Step.go.injEq] at hs; obtain ⟨rfl, rfl⟩ := hs; exact ⟨rfl, .over _ _ _ [] _ _ _ _ _⟩
        | cons F fs =>
          cases F with
          | ret => rw [List.cons_append, PySem.W.step_again] at hs; simp only [Step.go.injEq] at hs; obtain ⟨rfl, rfl⟩ := hs; exact ⟨rfl, .over _ _ _ (_ :: fs) _ _ _ _ _⟩
          | gen => simp [roOk, isRet] at h
    | raise f =>
      cases fs with
      | nil => simp only [step, List.nil_append, Step.go.injEq] at hs; obtain ⟨rfl, rfl⟩ := hs; exact ⟨rfl, .base _⟩
      | cons F fs =>
        cases F with
        | ret => simp only [step, List.cons_append, Step.go.injEq] at hs; obtain ⟨rfl, rfl⟩ := hs; exact ⟨rfl, .over ..⟩
        | gen => simp [roOk, isRet] at h
    | _ => cases h
end
section
variable (st : SharedT → Thread → Option (SharedT × Thread)) (n0 : Nat) (ann : Option Value)
def roRun (b : Nat) : Nat → SharedT → Thread → Option Flow
  | 0, _, _ => none
  | m + 1, s, t => match endAt b t with
    | some f => some f
    | none => match roOk b t && stepOk n0 ann t with
      | false => none
      | true => match st s t with
        | some (_, t') => roRun b m s t'
        | none => none
/-- so many steps, to the piece's end -/
def sgRun (b : Nat) : Nat → SharedT → Thread → Option (Flow × SharedT × Code × Pos)
  | 0, _, _ => none
  | m + 1, s, t => match endAt b t with
    | some f => some (f, s, t.code, t.pos)
    | none => match stepOk n0 ann t with
      | false => none
      | true => match st s t with
        | some (s', t') => frS s' fun s' => sgRun b m s' t'
        | none => none
end
section
variable {tb : String → Option Builtin} {p : Program} {w : World} {n0 : Nat} {ann : Option Value} {B : List Frame} {c : Code} {q : Pos}
theorem roRun_ok : ∀ {m : Nat} {s : SharedT} {t : Thread} {f : Flow}, RoAt B c q t → roRun (stepT (denote tb) p w) n0 ann B.length m s t = some f → segRun tb p w n0 ann B.length m s.abs t = some (f, s.abs, c, q)
  | 0, _, _, _, _, h => by cases h
  | m + 1, s, t, f, A, h => by
    unfold roRun at h
    unfold segRun
    cases he : endAt B.length t with
    | some x =>
      rw [he] at h
      cases h
      have e : (t.stack.length == B.length) = true := by
        unfold endAt at he
        split at he
        · assumption
        · cases he
      obtain ⟨cur, rfl⟩ := A.deep e
      rfl
    | none =>
      rw [he] at h
      cases hk : (roOk B.length t && stepOk n0 ann t) with
      | false => rw [hk] at h; cases h
      | true =>
        rw [hk] at h
        obtain ⟨k1, k2⟩ := Bool.and_eq_true_iff.mp hk
        rw [k2]
        cases hs : stepT (denote tb) p w s t with
        | none => rw [hs] at h; cases h
        | some r =>
          obtain ⟨s2, t2⟩ := r
          rw [hs] at h
          have e := stepT_spec hs
          obtain ⟨e1, A2⟩ := roAt_next A k1 e
          rw [e]
          show segRun tb p w n0 ann B.length m s2.abs t2 = _
          rw [e1]
          exact roRun_ok A2 h
theorem sgRun_ok : ∀ {m : Nat} {s s' : SharedT} {t : Thread} {f : Flow} {c' : Code} {q' : Pos} {b : Nat}, sgRun (stepT (denote tb) p w) n0 ann b m s t = some (f, s', c', q') → segRun tb p w n0 ann b m s.abs t = some (f, s'.abs, c', q')
  | 0, _, _, _, _, _, _, _, h => by cases h
  | m + 1, s, s', t, f, c', q', b, h => by
    unfold sgRun at h
    unfold segRun
    cases he : endAt b t with
    | some x => rw [he] at h; cases h; rfl
    | none =>
      rw [he] at h
      cases hk : stepOk n0 ann t with
      | false => rw [hk] at h; cases h
      | true =>
        rw [hk] at h
        cases hs : stepT (denote tb) p w s t with
        | none => rw [hs] at h; cases h
        | some r =>
          obtain ⟨s2, t2⟩ := r
          rw [hs] at h
          have h3 : (frS s2 fun s' => sgRun (stepT (denote tb) p w) n0 ann b m s' t2) = some (f, s', c', q') := h
          rw [frS_eq] at h3
          rw [stepT_spec hs]
          exact sgRun_ok h3
variable {α : Type} {lv : List Value → List Value}
theorem Gs.ro {m : Sem α} {res : α → Flow} {f : Flow} {a0 : α} {n : Nat} {s : SharedT} (hB : splitAtGen B = none) (hf : ∀ a, res a = f → a = a0)
    (h : roRun (stepT (denote tb) p w) n0 ann B.length n s ⟨m.wrap (fun a => .pure (.done (res a))) deadEnd id lv, c, q, B⟩ = some f) : Gs tb p w n0 ann B lv m s.abs c q n a0 s.abs c q :=
  Gs.seg hB hf (roRun_ok (.base _) h)
theorem Gs.sg {m : Sem α} {res : α → Flow} {f : Flow} {a0 : α} {n : Nat} {s s' : SharedT} {c' : Code} {q' : Pos} (hB : splitAtGen B = none) (hf : ∀ a, res a = f → a = a0)
    (h : sgRun (stepT (denote tb) p w) n0 ann B.length n s ⟨m.wrap (fun a => .pure (.done (res a))) deadEnd id lv, c, q, B⟩ = some (f, s', c', q')) : Gs tb p w n0 ann B lv m s.abs c q n a0 s'.abs c' q' :=
  Gs.seg hB hf (sgRun_ok h)
end
end Mi
set_option maxHeartbeats 1000000
namespace Mi
open PySem PySem.W PySem.Calls PyProof.Rows HandSHeadRun
/-! ### storing under keys that are tuples, whatever the hashes -/
section
variable {tb : String → Option Builtin} {p : Program} {w : World} {n0 : Nat} {ann : Option Value} {B : List Frame} {lv : List Value → List Value} {s s' : Shared} {c : Code} {q : Pos} {n F : Nat}
theorem Gs.hold1 {α : Type} {m : Sem α} {x : α} {a : Addr} {c' : Code} {q' : Pos} (h : Gs tb p w n0 ann B (fun l => lv ([.ref a] ++ l)) m s c q n x s' c' q') : Gs tb p w n0 ann B lv (holding [.ref a] m) s c q n x s' c' q' := Gs.keep (vs := [.ref a]) h
theorem Gs.hold2 {α : Type} {m : Sem α} {x : α} {a b : Addr} {c' : Code} {q' : Pos} (h : Gs tb p w n0 ann B (fun l => lv ([.ref a, .ref b] ++ l)) m s c q n x s' c' q') : Gs tb p w n0 ann B lv (holding [.ref a, .ref b] m) s c q n x s' c' q' := Gs.keep (vs := [.ref a, .ref b]) h
theorem Gs.entries {d : Addr} {o : Obj} {es : Array DictEntry} {ep : Nat} {part : Option Value} (ho : s.heap.get? d = some o) (hd : o.data = .dict es ep) : Gs tb p w n0 ann B lv (dictEntries d part) s c q 1 es s c q := by
  unfold dictEntries
  refine Gs.bind (n := 1) (k := 0) (Gs.loadPart ho) ?_
  rw [hd]
  exact Gs.pure
theorem Gs.epoch {d : Addr} {o : Obj} {es : Array DictEntry} {ep : Nat} {part : Option Value} (ho : s.heap.get? d = some o) (hd : o.data = .dict es ep) : Gs tb p w n0 ann B lv (dictEpoch d part) s c q 1 ep s c q := by
  unfold dictEpoch
  refine Gs.bind (n := 1) (k := 0) (Gs.loadPart ho) ?_
  rw [hd]
  exact Gs.pure
/-- what is known of the keys that stand, for a new key at a: quiet, and another -/
structure NewKey (tb : String → Option Builtin) (p : Program) (w : World) (n0 : Nat) (ann : Option Value) (B : List Frame) (lv : List Value → List Value) (s : Shared) (c : Code) (q : Pos) (F : Nat) (ks : List Addr) (a : Addr) : Prop where
  qa : Gs tb p w n0 ann B lv (eqIsQuiet 8 (.ref a)) s c q F true s c q
  qk : ∀ k ∈ ks, Gs tb p w n0 ann B lv (eqIsQuiet 8 (.ref k)) s c q F true s c q
  ne : ∀ k ∈ ks, k ≠ a ∧ Gs tb p w n0 ann B lv (eqBool (.ref k) (.ref a)) s c q F false s c q
theorem Gs.tell {ks : List Addr} {a : Addr} {stored : List Value} (N : NewKey tb p w n0 ann B lv s c q F ks a) (hs : ∀ v ∈ stored, ∃ k ∈ ks, v = .ref k) : Gs tb p w n0 ann B lv (tableMayTell (.ref a) stored) s c q (F + F * stored.length) false s c q := by
  unfold tableMayTell
  split
  · exact (Gs.pure).mono (Nat.zero_le _)
  · refine Gs.bind N.qa ?_
    simp only [Bool.not_true, Bool.false_eq_true, if_false]
    refine Gs.bind (n := F * stored.length) (k := 0) (Gs.forIn (b := (none, ())) fun v hv => ?_) Gs.pure
    obtain ⟨k, hk, rfl⟩ := hs v hv
    refine Gs.bind (n := F) (k := 0) (N.qk k hk) ?_
    simp only [Bool.not_true, Bool.false_eq_true, if_false]
    exact Gs.pure
theorem Gs.find {d a : Addr} {o : Obj} {es : Array DictEntry} {ep : Nat} {ks : List Addr} {h : Int} (ho : s.heap.get? d = some o) (hd : o.data = .dict es ep) (he : ∀ e ∈ es, ∃ k ∈ ks, e.key = .ref k)
    (N : NewKey tb p w n0 ann B (fun l => lv ([.ref a] ++ l)) s c q F ks a) : Gs tb p w n0 ann B lv (dictFind d (.ref a) h) s c q (1 + ((F + F * es.size) + (3 + F) * es.size)) none s c q := by
  have hany : ¬ (es.any fun e => e.key == Value.ref a && e.hash != h) = true := by
    rw [Array.any_eq_true']
    rintro ⟨e, hin, hc⟩
    obtain ⟨k, hk, e1⟩ := he e hin
    have e2 := (Bool.and_eq_true_iff.mp hc).1
    rw [e1] at e2
    have e3 := eq_of_beq e2
    injection e3 with e3
    exact (N.ne k hk).1 e3
  have hst : ∀ v ∈ (placesWithHash es.size (fun i => es[i]?.map (·.hash)) h).filterMap (fun i => es[i]?.map (·.key)), ∃ k ∈ ks, v = .ref k := by
    intro v hv
    obtain ⟨i, _, hi⟩ := List.mem_filterMap.mp hv
    cases hei : es[i]? with
    | none => rw [hei] at hi; cases hi
    | some e =>
      rw [hei] at hi
      obtain rfl : e.key = v := by simpa using hi
      exact he e (Array.mem_of_getElem? hei)
  have hl1 : (placesWithHash es.size (fun i => es[i]?.map (·.hash)) h).length ≤ es.size := by
    unfold placesWithHash
    exact Nat.le_trans (List.length_filter_le _ _) (by simp)
  have hl2 : ((placesWithHash es.size (fun i => es[i]?.map (·.hash)) h).filterMap (fun i => es[i]?.map (·.key))).length ≤ es.size := Nat.le_trans (List.length_filterMap_le _ _) hl1
  unfold dictFind
  refine Gs.hold1 ?_
  refine Gs.bind (Gs.entries ho hd) ?_
  dsimp only
  rw [if_neg (show ¬ ((Value.ref a :: (placesWithHash es.size (fun i => es[i]?.map (·.hash)) h).filterMap (fun i => es[i]?.map (·.key))).all carriedByValue) = true by simp [carriedByValue])]
  rw [if_neg hany]
  have body : ∀ i ∈ placesWithHash es.size (fun i => es[i]?.map (·.hash)) h, ∀ e, es[i]? = some e → ∃ k ∈ ks, e.key = .ref k := fun i _ e q => he e (Array.mem_of_getElem? q)
  by_cases hone : (((placesWithHash es.size (fun i => es[i]?.map (·.hash)) h).filterMap (fun i => es[i]?.map (·.key))) == [Value.ref a]) = true
  all_goals (first | rw [if_pos hone] | rw [if_neg hone])
  all_goals (first | refine Gs.bind (n := F + F * es.size) (k := (3 + F) * es.size) ((Gs.pure (a := false)).mono (Nat.zero_le _)) ?_ | refine Gs.bind (n := F + F * es.size) (k := (3 + F) * es.size) ((Gs.tell N hst).mono (Nat.add_le_add_left (Nat.mul_le_mul_left _ hl2) _)) ?_)
  all_goals
    rw [if_neg (by simp)]
    refine Gs.bind (n := (3 + F) * es.size) (k := 0) ((Gs.forIn (n := 3 + F) (b := (none, none)) fun i hi => ?_).mono (Nat.mul_le_mul_left _ hl1)) Gs.pure
    cases hei : es[i]? with
    | none => exact (Gs.pure).mono (Nat.zero_le _)
    | some e =>
      obtain ⟨k, hk, e1⟩ := body i hi e hei
      dsimp only
      rw [e1]
      split
      · rw [show 3 + F = 1 + (F + (1 + 1)) by omega]
        refine Gs.bind (Gs.epoch ho hd) (Gs.bind (N.ne k hk).2 (Gs.bind (Gs.epoch ho hd) ?_))
        rw [if_neg (by simp), if_neg (by simp)]
        refine Gs.bind (n := 1) (k := 0) Gs.rule ?_
        rw [if_neg (by simp)]
        exact Gs.pure
      · exact (Gs.pure).mono (Nat.zero_le _)
/-- what a value's hash is taken from: some text of a call -/
abbrev refuseH (v : Value) : Sem Value := do rule "hash.unhashable"; raiseError "TypeError" s!"unhashable type: '{← typeNameOf v}'"
abbrev callHash (a : Addr) : Sem (Option Value) := callSpecialIfBoundUnlessNone? (.ref a) "__hash__" (refuseH (.ref a))
theorem Gs.hash {a : Addr} {H : Int} {t : Tok} {s1 : Shared} {c1 : Code} {q1 : Pos} (h1 : Gs tb p w n0 ann B lv (cRoomFor "hash" [.ref a]) s c q F () s c q) (h2 : Gs tb p w n0 ann B lv (specialOf (.ref a) "__hash__") s c q F (some (.builtin "tuple.__hash__")) s c q)
    (h3 : Gs tb p w n0 ann B lv (callHash a) s c q F (some (.int H t)) s1 c1 q1) : Gs tb p w n0 ann B lv (pyHash (.ref a)) s c q (F + (F + (F + (F + 1)))) (reduceHash H) s1 c1 q1 := by
  unfold pyHash
  unfold pyHashByItsType
  refine Gs.bind h1 ?_
  refine Gs.bind h2 ?_
  rw [if_neg (by rw [show ((some (Value.builtin "tuple.__hash__") : Option Value) == some Value.none) = false from rfl]; exact Bool.false_ne_true)]
  refine Gs.bind h2 ?_
  rw [if_neg (by simp)]
  refine Gs.bind h3 ?_
  dsimp only
  unfold pyHashByItsType.reduced reduceHash
  split
  · exact (Gs.pure).mono (Nat.zero_le _)
  · exact Gs.bind (n := 1) (k := 0) Gs.rule Gs.pure
theorem Gs.set {d a b : Addr} {o : Obj} {es : Array DictEntry} {ep : Nat} {ks : List Addr} {H : Int} {t : Tok} {s1 s2 : Shared} {c1 c2 : Code} {q1 q2 : Pos} (h1 : Gs tb p w n0 ann B (fun l => lv ([.ref a, .ref b] ++ l)) (cRoomFor "hash" [.ref a]) s c q F () s c q)
    (h2 : Gs tb p w n0 ann B (fun l => lv ([.ref a, .ref b] ++ l)) (specialOf (.ref a) "__hash__") s c q F (some (.builtin "tuple.__hash__")) s c q) (h3 : Gs tb p w n0 ann B (fun l => lv ([.ref a, .ref b] ++ l)) (callHash a) s c q F (some (.int H t)) s1 c1 q1)
    (ho : s1.heap.get? d = some o) (hd : o.data = .dict es ep) (he : ∀ e ∈ es, ∃ k ∈ ks, e.key = .ref k)
    (N : NewKey tb p w n0 ann B (fun l => lv ([.ref a, .ref b] ++ ([.ref a, .ref b] ++ ([.ref a] ++ l)))) s1 c1 q1 F ks a)
    (up : Gs tb p w n0 ann B (fun l => lv ([.ref a, .ref b] ++ ([.ref a, .ref b] ++ l))) (updateDictKeys d (·.push ⟨reduceHash H, .ref a, .ref b⟩) (keyPart (.ref a))) s1 c1 q1 F () s2 c2 q2) :
    Gs tb p w n0 ann B lv (dictSet d (.ref a) (.ref b)) s c q (F + (F + (F + (F + 1))) + ((1 + ((F + F * es.size) + (3 + F) * es.size)) + (1 + F))) () s2 c2 q2 := by
  unfold dictSet
  refine Gs.hold2 ?_
  refine Gs.bind (Gs.hash h1 h2 h3) ?_
  unfold dictSetHashed
  refine Gs.hold2 ?_
  refine Gs.bind (Gs.find ho hd he N) ?_
  dsimp only
  exact Gs.bind Gs.rule up
end
end Mi
set_option maxHeartbeats 1000000
namespace Mi
open PySem PySem.W PySem.Calls PyProof.Rows HandSHeadRun
/-! ### the same, worked out -/
abbrev fuelT : Nat := 20000
def resU : Unit → Flow := fun _ => .next
def resB : Bool → Flow := fun b => match b with
  | true => .brk
  | false => .cont
def resN : Option Value → Flow := fun o => match o with
  | some (.builtin id) => (match decide (id = "tuple.__hash__") with
    | true => .brk
    | false => .cont)
  | _ => .next
def resV : Option Value → Flow := fun o => match o with
  | some v => .ret v
  | none => .next
def resA : Addr → Flow := fun a => .ret (.ref a)
def resO : Option (List Str) → Flow := fun o => match o with
  | none => .next
  | some _ => .brk
/-- the pairs' addresses -/
def asRefs : List (Value × Value) → List (Nat × Nat) → Bool
  | [], [] => true
  | (.ref a, .ref b) :: r, (x, y) :: t => Nat.beq a x && (Nat.beq b y && asRefs r t)
  | _, _ => false
abbrev refP (x : Nat × Nat) : Value × Value := (.ref x.1, .ref x.2)
def resP (kvs : List (Nat × Nat)) : List (Value × Value) → Flow := fun l => resB (asRefs l kvs)
theorem resA_ok {a d : Addr} (h : resA a = .ret (.ref d)) : a = d := by cases h; rfl
section
variable (st : SharedT → Thread → Option (SharedT × Thread)) (n0 : Nat) (ann : Option Value) (B : List Frame)
def roB {α : Type} (m : Sem α) (res : α → Flow) (lv : List Value → List Value) (s : SharedT) (c : Code) (q : Pos) : Option Flow := roRun st n0 ann B.length fuelT s ⟨m.wrap (fun a => .pure (.done (res a))) deadEnd id lv, c, q, B⟩
def sgB {α : Type} (m : Sem α) (res : α → Flow) (lv : List Value → List Value) (s : SharedT) (c : Code) (q : Pos) : Option (Flow × SharedT × Code × Pos) := sgRun st n0 ann B.length fuelT s ⟨m.wrap (fun a => .pure (.done (res a))) deadEnd id lv, c, q, B⟩
def isBrk : Option Flow → Bool
  | some .brk => true
  | _ => false
def isCont : Option Flow → Bool
  | some .cont => true
  | _ => false
def isNext : Option Flow → Bool
  | some .next => true
  | _ => false
def newB (lv : List Value → List Value) (s : SharedT) (c : Code) (q : Pos) (ks : List Addr) (a : Addr) : Bool :=
  isBrk (roB st n0 ann B (eqIsQuiet 8 (.ref a)) resB lv s c q) && ks.all fun k => isBrk (roB st n0 ann B (eqIsQuiet 8 (.ref k)) resB lv s c q) && (!(Nat.beq k a) && isCont (roB st n0 ann B (eqBool (.ref k) (.ref a)) resB lv s c q))
def keyB (ks : List Addr) (e : DictEntry) : Bool := match e.key with
  | .ref k => ks.any fun x => Nat.beq k x
  | _ => false
def dictB (ks : List Addr) (o : Option Obj) : Bool := match o with
  | some ⟨_, _, .dict es _, _⟩ => es.toList.all (keyB ks) && Nat.ble es.size 16
  | _ => false
def setB (d : Addr) (lv : List Value → List Value) (a b : Addr) (ks : List Addr) (s : SharedT) (c : Code) (q : Pos) : Option (SharedT × Code × Pos) :=
  match isNext (roB st n0 ann B (cRoomFor "hash" [.ref a]) resU (fun l => lv ([.ref a, .ref b] ++ l)) s c q) && isBrk (roB st n0 ann B (specialOf (.ref a) "__hash__") resN (fun l => lv ([.ref a, .ref b] ++ l)) s c q) with
  | false => none
  | true => match sgB st n0 ann B (callHash a) resV (fun l => lv ([.ref a, .ref b] ++ l)) s c q with
    | some (.ret (.int H _), s1, c1, q1) => (match newB st n0 ann B (fun l => lv ([.ref a, .ref b] ++ ([.ref a, .ref b] ++ ([.ref a] ++ l)))) s1 c1 q1 ks a && dictB ks (getT s1 d) with
      | true => (match sgB st n0 ann B (updateDictKeys d (·.push ⟨reduceHash H, .ref a, .ref b⟩) (keyPart (.ref a))) resU (fun l => lv ([.ref a, .ref b] ++ ([.ref a, .ref b] ++ l))) s1 c1 q1 with
        | some (.next, s2, c2, q2) => some (s2, c2, q2)
        | _ => none)
      | false => none)
    | _ => none
def storeB (d : Addr) (lv : List Value → List Value) : List (Nat × Nat) → List Addr → SharedT → Code → Pos → Option (SharedT × Code × Pos)
  | [], _, s, c, q => some (s, c, q)
  | x :: r, ks, s, c, q => match setB st n0 ann B d lv x.1 x.2 ks s c q with
    | some (s1, c1, q1) => storeB d lv r (x.1 :: ks) s1 c1 q1
    | none => none
end
def nSet : Nat := fuelT + (fuelT + (fuelT + (fuelT + 1))) + ((1 + ((fuelT + fuelT * 16) + (3 + fuelT) * 16)) + (1 + fuelT))
section
variable {p : Program} {w : World} {n0 : Nat} {ann : Option Value} {B : List Frame}
abbrev GsT {α : Type} (p : Program) (w : World) (n0 : Nat) (ann : Option Value) (B : List Frame) (lv : List Value → List Value) (m : Sem α) (s : SharedT) (c : Code) (q : Pos) (n : Nat) (a : α) (s' : SharedT) (c' : Code) (q' : Pos) : Prop := Gs treeTable p w n0 ann B lv m s.abs c q n a s'.abs c' q'
theorem sgB_ok {α : Type} {m : Sem α} {res : α → Flow} {lv : List Value → List Value} {s s' : SharedT} {c c' : Code} {q q' : Pos} {f : Flow} {a0 : α} (hB : splitAtGen B = none) (hf : ∀ a, res a = f → a = a0) (h : sgB (stepT (denote treeTable) p w) n0 ann B m res lv s c q = some (f, s', c', q')) :
    GsT p w n0 ann B lv m s c q fuelT a0 s' c' q' := Gs.sg hB hf h
end
end Mi
set_option maxHeartbeats 1000000
namespace Mi
open PySem PySem.W PySem.Calls PyProof.Rows HandSHeadRun
/-! ### the statement -/
def pairsE (env : Env) (pos : Pos) : List Expr → List Expr → List (Sem Value × Sem Value)
  | k :: ks, v :: vs => (eval k env, do let x ← eval v env; standAt pos; pure x) :: pairsE env pos ks vs
  | _, _ => []
structure TurnD where
  pre : List Stmt
  tg : List Expr
  ks : List Expr
  vs : List Expr
  dpos : Pos
  pos : Pos
  post : List Stmt
  kvs : List (Nat × Nat)
def TurnD.stmt (T : TurnD) : Stmt := .Assign T.tg (.Dict (T.ks.map some) T.vs T.dpos) T.pos
abbrev newD : Obj := { cls := .type "dict", data := .dict #[] }
section
variable (st : SharedT → Thread → Option (SharedT × Thread)) (n0 : Nat) (ann : Option Value) (B : List Frame)
def lvD (d : Addr) (kvs : List (Nat × Nat)) : List Value → List Value := fun l => ([.ref d] : List Value) ++ (((kvs.map refP).flatMap fun x => [x.1, x.2]).filter Value.isRef ++ l)
def dispB (T : TurnD) (env : Env) (s : SharedT) (c : Code) (q : Pos) : Option (Addr × SharedT × Code × Pos) :=
  match sgB st n0 ann B (alloc newD) resA id s c T.dpos with
  | some (.ret (.ref d), s1, c1, q1) => (match sgB st n0 ann B (evalPairs (pairsE env T.dpos T.ks T.vs)) (resP T.kvs) (fun l => ([.ref d] : List Value) ++ l) s1 c1 q1 with
    | some (.brk, s2, c2, q2) => (match storeB st n0 ann B d (lvD d T.kvs) T.kvs [] s2 c2 q2 with
      | some (s3, c3, q3) => some (d, s3, c3, q3)
      | none => none)
    | _ => none)
  | _ => none
def assB (T : TurnD) (env : Env) (s : SharedT) (c : Code) (q : Pos) : Option (SharedT × Code × Pos) :=
  match sgB st n0 ann B (swapsWithSole T.tg (.Dict (T.ks.map some) T.vs T.dpos) T.pos.line env) resB id s c T.pos with
  | some (.cont, s1, c1, q1) => (match dispB st n0 ann B T env s1 c1 q1 with
    | some (d, s2, c2, q2) => (match sgB st n0 ann B (swappedStores T.tg (.Dict (T.ks.map some) T.vs T.dpos) env) resO id s2 c2 q2 with
      | some (.next, s3, c3, q3) => (match sgB st n0 ann B (assignStores env (.ref d) none ((assignEach T.tg env).map (·.2))) id id s3 c3 q3 with
        | some (.next, s4, c4, q4) => some (s4, c4, q4)
        | _ => none)
      | _ => none)
    | none => none)
  | _ => none
end
def nDisp (k : Nat) : Nat := 1 + (fuelT + (fuelT + nSet * k))
def nAss (k : Nat) : Nat := 1 + (fuelT + (nDisp k + (fuelT + fuelT)))
section
variable {p : Program} {w : World} {n0 : Nat} {ann : Option Value} {B : List Frame}
theorem Gs.hold {tb : String → Option Builtin} {lv : List Value → List Value} {α : Type} {m : Sem α} {x : α} {vs : List Value} {s s' : Shared} {c c' : Code} {q q' : Pos} {n : Nat} (h : Gs tb p w n0 ann B (fun l => lv (vs.filter Value.isRef ++ l)) m s c q n x s' c' q') : Gs tb p w n0 ann B lv (holding vs m) s c q n x s' c' q' := by
  rw [holding_eq_keep]
  exact Gs.keep h
end
end Mi
set_option maxHeartbeats 1000000
namespace Mi
open PySem PySem.W PySem.Calls PyProof.Rows HandSHeadRun
/-! ### the top with such a statement in it -/
def envT (p : Program) (code : Value) (fr : Addr) : Env := { scope := p.main.scope, locals := mainNs, globals := mainNs, cells := [], code := code, frame := some fr }
def frT1 (c : Code) (q : Pos) : List Frame := [.ret topAfter none false [] c q []]
section
variable (st : SharedT → Thread → Option (SharedT × Thread)) (n0 : Nat) (ann : Option Value)
def bodyB (p : Program) (T : TurnD) (M : Nat) (env : Env) (B : List Frame) (s : SharedT) (q : Pos) : Option SharedT :=
  match sgB st n0 ann B (blockStart (behindTheImports p) env) resU id s (.body (behindTheImports p) env) q with
  | some (.next, s1, c1, q1) => (match sgRun st n0 ann B.length M s1 ⟨(execs T.pre env).wrap (fun f => .pure (.done (id f))) deadEnd id id, c1, q1, B⟩ with
    | some (.next, s2, c2, q2) => (match assB st n0 ann B T env s2 c2 q2 with
      | some (s3, c3, q3) => goF st n0 ann M s3 ⟨(execs T.post env).wrap doneF (leaveH env) id id, c3, q3, B⟩
      | none => none)
    | _ => none)
  | _ => none
def topB (p : Program) (T : TurnD) (M : Nat) (s : SharedT) : Option SharedT :=
  match sgB st n0 ann [] (moduleCode p.main) (fun v => .ret v) id s (.builtin "claim.caller" {}) default with
  | some (.ret code, s1, c1, q1) => (match sgB st n0 ann [] (newBodyFrame code mainNs mainNs) resA id s1 c1 q1 with
    | some (.ret (.ref fr), s2, c2, q2) => bodyB st n0 ann p T M (envT p code fr) (frT1 c2 q2) s2 q2
    | _ => none)
  | _ => none
end
section
variable {p : Program} {w : World} {n0 : Nat} {ann : Option Value}
def nTop (k M : Nat) : Nat := fuelT + (fuelT + (1 + (fuelT + (M + (nAss k + M)))))
end
end Mi
set_option maxHeartbeats 1000000
namespace Mi
open PySem PySem.W PySem.Calls PyProof.Rows HandSHeadRun
/-! ### the imports, the fences, and such a top -/
def wholeT (st : Program → SharedT → Thread → Option (SharedT × Thread)) (fence : Program → Shared → Option Shared) (N M : Nat) (p : Program) (T : TurnD) : Option (Shared × SharedT) :=
  (impF (st (opening p)) N (startT (opening p)) (start (opening p)).2).bind fun i => (fence p i.abs).bind fun s0 =>
    cond (s0.heap.isNs mainGlobals && s0.gens.size == 0) ((treeOf s0).bind fun x => frS x fun x => (topB (st p) x.n (s0.heap.nsMap mainGlobals "__annotations__") p T M x).map fun s1 => (s0, s1)) none
noncomputable abbrev runT (w : World) (N M : Nat) (p : Program) (T : TurnD) : Option (Shared × SharedT) := wholeT (fun p => stepQ (denQ tabQ) p w) fenceQ N M p T
noncomputable abbrev seeT (r : OpenRow) (q : Program) (loose : List PySem.Str) :=
  fun (x : Shared × SharedT) => (looksF r.prog x.1.heap x.2.abs, seenQ q loose (importedModules r.prog.main.body) (fun s => xlAt q [] s && recOk r.toRowW.records s) x.2.abs)
/-- the whole run's equation at a world -/
structure RunEqT (r : OpenRow) (q : Program) (H : Hook) (ob : SharedT → H.α) (N M : Nat) (T : TurnD) (loose : List PySem.Str) (w : World) : Prop where
  see : (runT w N M r.prog T).map (seeT r q loose) = some (true, openGood q loose)
  ob : (runT w N M r.prog T).map (fun x => ob x.2) = some (H.val w)
end Mi
set_option maxHeartbeats 1000000
namespace Mi
open PySem PySem.W PySem.Calls PyProof.Rows
/-! ### the statement, taken out of the program -/
def turnAt (b : List Stmt) (i : Nat) (kvs : List (Nat × Nat)) : TurnD := match b[i]? with
  | some (.Assign tg (.Dict ks vs dpos) pos) => ⟨b.take i, tg, ks.filterMap id, vs, dpos, pos, b.drop (i + 1), kvs⟩
  | _ => ⟨[], [], [], [], default, default, [], []⟩
def turnOf (p : Program) (i : Nat) (kvs : List (Nat × Nat)) : TurnD := turnAt (behindTheImports p) i kvs
end Mi
set_option maxHeartbeats 1000000
namespace Mi
open PySem PySem.W PySem.Calls PyProof.Rows HandSHeadRun
/-! ### the top in pieces, from one written state to the next -/
section
variable (p : Program) (w : World) (n0 : Nat) (ann : Option Value) (env : Env) (B : List Frame)
/-- what follows the statements R -/
def RunP (R : List Stmt) (s : SharedT) (c : Code) (q : Pos) (k : Nat) (s' : SharedT) : Prop :=
  topRun treeTable p w n0 ann k s.abs ⟨(execs R env).wrap doneF (leaveH env) id id, c, q, B⟩ = some s'.abs
end
section
variable {p : Program} {w : World} {n0 : Nat} {ann : Option Value} {env : Env} {B : List Frame} {s s1 s' : SharedT} {c c1 : Code} {q q1 : Pos} {M k : Nat}
noncomputable abbrev stQ (p : Program) (w : World) : SharedT → Thread → Option (SharedT × Thread) := stepQ (denQ tabQ) p w
theorem stQ_eq (p : Program) (w : World) : stepT (denote treeTable) p w = stQ p w := by rw [stepQ_eq, denQ_eq, tabQ_eq]
theorem runP_nil (h : goF (stQ p w) n0 ann M s ⟨(execs [] env).wrap doneF (leaveH env) id id, c, q, B⟩ = some s') : RunP p w n0 ann env B [] s c q M s' := by
  rw [← stQ_eq] at h
  exact goF_ok h
theorem runP_app {A R : List Stmt} (hB : splitAtGen B = none) (h : sgRun (stQ p w) n0 ann B.length M s ⟨(execs A env).wrap (fun f => .pure (.done (id f))) deadEnd id id, c, q, B⟩ = some (.next, s1, c1, q1)) (hr : RunP p w n0 ann env B R s1 c1 q1 k s') : RunP p w n0 ann env B (A ++ R) s c q (M + k) s' := by
  rw [← stQ_eq] at h
  unfold RunP
  rw [execs_app_wrap]
  exact (Gs.sg (a0 := Flow.next) hB (fun _ e => e) h : GsT ..) _ _ _ _ hr
end
/-- an object, its epoch worked out -/
def nrmO (o : Obj) : Obj := match o with
  | ⟨c, d, .dict es n, s⟩ => frNat n fun n => ⟨c, d, .dict es n, s⟩
  | o => o
theorem nrmO_eq (o : Obj) : nrmO o = o := by
  unfold nrmO
  split
  · rw [frNat_eq]
  · rfl
theorem nrmL_eq (l : List Obj) : l.map nrmO = l := by
  rw [show nrmO = id from funext nrmO_eq, List.map_id]
/-- the imports and the fences: what is there then -/
def openL (st : Program → SharedT → Thread → Option (SharedT × Thread)) (fence : Program → Shared → Option Shared) (N : Nat) (p : Program) : Option (List Obj × Life × Array GenState × Drawn × Nat × OsState) :=
  (impF (st (opening p)) N (startT (opening p)) (start (opening p)).2).bind fun i => (fence p i.abs).map fun s0 => (s0.heap.objs.toList.map nrmO, s0.heap.life, s0.gens, s0.drawn, s0.toks, s0.os)
/-- the module's code, its frame, the block's start -/
def startB (st : SharedT → Thread → Option (SharedT × Thread)) (n0 : Nat) (ann : Option Value) (p : Program) (x : SharedT) : Option (SharedT × Value × Addr × Code × Pos × Code × Pos) :=
  match sgB st n0 ann [] (moduleCode p.main) (fun v => .ret v) id x (.builtin "claim.caller" {}) default with
  | some (.ret code, s1, c1, q1) => (match sgB st n0 ann [] (newBodyFrame code mainNs mainNs) resA id s1 c1 q1 with
    | some (.ret (.ref fr), s2, c2, q2) => (match sgB st n0 ann (frT1 c2 q2) (blockStart (behindTheImports p) (envT p code fr)) resU id s2 (.body (behindTheImports p) (envT p code fr)) q2 with
      | some (.next, s3, c3, q3) => some (s3, code, fr, c2, q2, c3, q3)
      | _ => none)
    | _ => none)
  | _ => none
noncomputable abbrev openQ (w : World) (N : Nat) (p : Program) := openL (fun p => stQ p w) fenceQ N p
section
variable {p : Program} {w : World} {N k n0 : Nat} {x s3 s' : SharedT} {ann : Option Value} {code : Value} {fr : Addr} {c2 c3 : Code} {q2 q3 : Pos}
theorem openQ_eq (w : World) (N : Nat) (p : Program) : openL (fun q => stepT (denote treeTable) q w) fenceModules? N p = openQ w N p := by
  unfold openQ stQ
  rw [stepQ_eq, denQ_eq, tabQ_eq, fenceQ_eq]
theorem openQ_ok {l : List Obj} (h : openQ w N p = some (l, x.life, x.gens, x.drawn, x.toks, x.os)) (hx : x.abs.heap.objs.toList = l) : fencedOpening treeTable p w N = some x.abs := by
  rw [← openQ_eq] at h
  unfold openL at h
  obtain ⟨i, h1, h⟩ := Option.bind_eq_some_iff.mp h
  obtain ⟨z, h2, h⟩ := Option.map_eq_some_iff.mp h
  have a := impF_ok h1
  rw [startT_eq] at a
  simp only [Prod.mk.injEq] at h
  obtain ⟨e1, e2, e3, e4, e5, e6⟩ := h
  rw [nrmL_eq] at e1
  have e : z = x.abs := by
    obtain ⟨⟨zo, zl⟩, zg, zd, zt, zs⟩ := z
    obtain ⟨t, n, l1, g1, d1, t1, o1⟩ := x
    dsimp only at e1 e2 e3 e4 e5 e6
    subst e2 e3 e4 e5 e6
    have : zo = (absHeap t n zl).objs := Array.ext' (by rw [e1]; exact hx.symm)
    subst this
    rfl
  unfold fencedOpening
  rw [a, ← e]
  exact h2
theorem startB_ok (h : startB (stQ p w) n0 ann p x = some (s3, code, fr, c2, q2, c3, q3)) (hr : RunP p w n0 ann (envT p code fr) (frT1 c2 q2) (behindTheImports p) s3 c3 q3 k s') :
    topRun treeTable p w n0 ann (fuelT + (fuelT + (1 + (fuelT + k)))) x.abs (topStub p) = some s'.abs := by
  rw [← stQ_eq] at h
  unfold startB at h
  split at h
  · rename_i code' s1 c1 q1 e1
    split at h
    · rename_i fr' s2 c2' q2' e2
      split at h
      · rename_i s3' c3' q3' e3
        simp only [Option.some.injEq, Prod.mk.injEq] at h
        obtain ⟨rfl, rfl, rfl, rfl, rfl, rfl, rfl⟩ := h
        have hB : splitAtGen (frT1 c2' q2') = none := rfl
        have e : topRun treeTable p w n0 ann (fuelT + k) s2.abs ⟨denote treeTable (.body (behindTheImports p) (envT p code' fr')), .body (behindTheImports p) (envT p code' fr'), q2', frT1 c2' q2'⟩ = some s'.abs := by
          rw [body_wrap]
          exact (sgB_ok (a0 := ()) hB (fun _ _ => rfl) e3 : GsT ..) _ _ _ _ hr
        unfold topStub
        rw [Sem.bind_eq_wrap']
        refine (sgB_ok (a0 := code') rfl (fun a e => by cases e; rfl) e1 : GsT ..) _ _ _ _ ?_
        rw [Sem.bind_eq_wrap']
        refine (sgB_ok (a0 := fr') rfl (fun _ => resA_ok) e2 : GsT ..) _ _ _ _ ?_
        exact step1 rfl rfl rfl e
      · cases h
    · cases h
  · cases h
end
/-- the whole run, in written states -/
structure RunW (p : Program) (w : World) (N k : Nat) (x s' : SharedT) : Prop where
  o : fencedOpening treeTable p w N = some x.abs
  g : (x.abs.heap.isNs mainGlobals && x.abs.gens.size == 0) = true
  t : topRun treeTable p w x.abs.heap.objs.size (x.abs.heap.nsMap mainGlobals "__annotations__") k x.abs (topStub p) = some s'.abs
theorem runW_of {p : Program} {w : World} {N k n0 : Nat} {x s3 s' : SharedT} {ann : Option Value} {code : Value} {fr : Addr} {c2 c3 : Code} {q2 q3 : Pos} {l : List Obj} (ho : openQ w N p = some (l, x.life, x.gens, x.drawn, x.toks, x.os)) (hx : x.abs.heap.objs.toList = l)
    (hg : (x.abs.heap.isNs mainGlobals && x.abs.gens.size == 0) = true) (hn : x.abs.heap.objs.size = n0) (ha : x.abs.heap.nsMap mainGlobals "__annotations__" = ann)
    (h : startB (stQ p w) n0 ann p x = some (s3, code, fr, c2, q2, c3, q3)) (hr : RunP p w n0 ann (envT p code fr) (frT1 c2 q2) (behindTheImports p) s3 c3 q3 k s') :
    RunW p w N (fuelT + (fuelT + (1 + (fuelT + k)))) x s' := by
  subst hn ha
  exact ⟨openQ_ok ho hx, hg, startB_ok h hr⟩
theorem left_pieces {p q : Program} {loose : List PySem.Str} {Xt : Shared → Bool} {α : Type} {Yf : Shared → α} {Ya : World → α} {N k : Nat} {x s' : World → SharedT} (hN : Nat.ble k N = true) (run : ∀ w, RunW p w N k (x w) (s' w))
    (see : ∀ w : World, (looksF p (x w).abs.heap (s' w).abs, openSeen q loose (importedModules p.main.body) Xt true (s' w).abs, Yf (s' w).abs) = (true, openGood q loose, Ya w)) : LeftO p q loose Xt Yf Ya N true := fun w => by
  obtain ⟨o, g, t⟩ := run w
  obtain ⟨v1, v⟩ := Prod.mk.inj (see w)
  have t' := topRun_mono (N - k) _ _ _ _ t
  rw [show k + (N - k) = N by have := Nat.le_of_ble_eq_true hN; omega] at t'
  have l : topFrom treeTable p w N (x w).abs = some (s' w).abs := by
    unfold topFrom
    rw [g]
    dsimp only
    rw [t', Option.bind_some]
    have v2 : (staticsOk (importedModules p.main.body) (x w).abs.heap (s' w).abs.heap && namesBound p (s' w).abs.heap && gensDone (s' w).abs && laidKept (x w).abs.heap (s' w).abs.heap) = true := v1
    rw [v2]
  show ((fencedOpening treeTable p w N).bind (topFrom treeTable p w N)).map _ = _
  rw [o, Option.bind_some, l]
  exact congrArg some v
theorem head_pieces {r : OpenRow} {q : Program} {H : Hook} {ob : SharedT → H.α} {N k : Nat} {x s' : World → SharedT} {loose : List PySem.Str} {d : DefRec} {kwd : List (PySem.Str × PySem.Expr)} (ho : ∀ s : SharedT, ob s = H.obs s.abs)
    (hN : Nat.ble k N = true) (run : ∀ w, RunW r.prog w N k (x w) (s' w))
    (h1 : ∀ w, looksF r.prog (x w).abs.heap (s' w).abs = true) (h2 : ∀ w, seenQ q loose (importedModules r.prog.main.body) (fun s => xlAt q [] s && recOk r.toRowW.records s) (s' w).abs = openGood q loose) (h3 : ∀ w, ob (s' w) = H.val w)
    (hdef : defOf q r.name = some (d, kwd)) (hp : r.prog.theDef r.name = some (d.params, d.body, d.scope)) (hk : kwWritten? d.params.kwonlyargs d.params.kw_defaults = some kwd) (hwr : (!r.writes || r.records.isEmpty) = true) (k1 : r.wellSaid = true)
    (ok : (chainsOk q && opensWell r.prog && (frees r.toRowW && r.within.isEmpty)) = true) (bare : r.prog.bare) (hw : r.toRowW.promised) (call : WalkO q loose (XL q []) H.says r.toRowW d kwd fun f vs => PySem.call f vs) : r.Holds := by
  have left : LeftO r.prog q loose (fun s => xlAt q [] s && recOk r.toRowW.records s) H.obs H.val N true := by
    refine left_pieces hN run fun w => ?_
    have e3 := h3 w
    rw [ho] at e3
    rw [h1 w, seenQ_eq, h2 w, e3]
  refine holds_open (XP := XL q []) (YP := H.says) left H.of H.keeps ?_ XL.keeps hdef hp hk ?_ hwr k1 ok bare hw call
  · exact fun s z => xl_of s (Bool.and_eq_true_iff.mp z).1
  · exact fun s z => recFacts_of (Bool.and_eq_true_iff.mp z).2
/-! ### words for written objects -/
abbrev vS (x : String) (t : Nat) : Value := .str (.ofString x) t
abbrev vI (i : Int) (t : Nat) : Value := .int i t
abbrev vR (a : Nat) : Value := .ref a
abbrev vB (b : String) : Value := .builtin b
abbrev vT (b : String) : Value := .type b
abbrev vN : Value := .none
def dE (w : World) (x : String) (t : Nat) (v : Value) : DictEntry := ⟨PyData.keyHash w.params (.ofString x), .str (.ofString x) t, v⟩
def oD (es : List DictEntry) (n : Nat) : Obj := ⟨.type "dict", none, .dict es.toArray n, #[]⟩
def oT (vs : List Value) : Obj := ⟨.type "tuple", none, .seq vs.toArray 0, #[]⟩
def oL (vs : List Value) (n : Nat) : Obj := ⟨.type "list", none, .seq vs.toArray n, #[]⟩
def oF (c : Value) (vs : List Value) : Obj := ⟨c, none, .fields vs.toArray, #[]⟩
def oP (c : Value) (sl : List (Option Value)) : Obj := ⟨c, none, .plain, sl.toArray⟩
def oC (c : Value) (d : Option Nat) (name : String) (bases mro : List Value) (ns : Nat) (qual : String) (sl : List (Option Value)) : Obj := ⟨c, d, .cls { name := .ofString name, bases := bases, mro := mro, ns := ns, qualname := .ofString qual }, sl.toArray⟩
def oU (c : Value) (name qual : String) (st : Stmt) (globals : Nat) (closure : List (PySem.Str × Nat)) (dfl kwd pm : Value) (ann : Option Nat) (code ct : Value) (bi : Nat) (sl : List (Option Value)) : Obj :=
  ⟨c, none, .func ⟨.ofString name, .ofString qual, L2.defArgs st, .stmts (L2.defBody st), L2.defScope st, globals, closure, dfl, kwd, .none, pm, ann, code, ct, bi⟩, sl.toArray⟩
/-- the tree of a list of objects -/
def trF : Nat → List Obj → BT
  | 0, _ => .nil
  | _ + 1, [] => .nil
  | n + 1, o :: r => .node o (trF n (alt true r)) (trF n (alt false r))
where alt : Bool → List Obj → List Obj
  | _, [] => []
  | true, x :: r => x :: alt false r
  | false, _ :: r => alt true r
end Mi
set_option maxHeartbeats 1000000
namespace Mi
open PySem PySem.Spec L2
open Evl (Ex)
/-! ### an f-string as a value -/
section
variable {K : PySem.W.Frag} {W : WX} {F H : Hp} {σ : L2.St} {env : En} {α β γ : Type} [ToD α] [ToD β] [ToD γ] {te to : TE}
def EvG (K : PySem.W.Frag) (W : WX) (env : En) (ts : List TE) (N : Nat) (m : Res Str) : Prop :=
  ∀ F0 H0 F H σ acc (Q : Str → Hp → Prop), Sl K F0 H0 F H σ env → acc.length + N ≤ sizeLine → KE K W F H σ (fun v H' => ∀ out, v = V.str out → Q (acc ++ out) H') m → tJs ts acc σ H Q
end
/-! ### a call without arguments -/
section
variable {X : Cx} {CX : CXT} {k : Nat} {f : Addr} {fd : FuncData} {ps : List Str} {sp : Sp} {E : L2.St → XK} {x : Str} {p pos : Pos}
end
/-! ### is, is not of a bool or None and a bool -/
def rIsOB : R2 := fun x y H Q => ∃ b : Bool, y = .bl b ∧ ((x = .non ∧ Q (.bl false) H) ∨ ∃ a : Bool, x = .bl a ∧ Q (.bl (decide (a = b))) H)
def rNotOB : R2 := fun x y H Q => ∃ b : Bool, y = .bl b ∧ ((x = .non ∧ Q (.bl true) H) ∨ ∃ a : Bool, x = .bl a ∧ Q (.bl (!decide (a = b))) H)
section
variable {X : Cx}
end
/-! ### two fors in a comprehension, the second with an if -/
def compL2T {α β γ : Type} (it : α → Res (List β)) (tst : α → β → Res Bool) (el : α → β → Res γ) : List α → Res (List γ)
  | [] => .ok []
  | x :: xs => (it x).bind fun ys => (compL (tst x) (el x) ys).bind fun zs => (compL2T it tst el xs).bind fun r => .ok (zs ++ r)
section
variable {K : PySem.W.Frag} {W : WX} {env : En} {te : TE} {tt : TT} {α β γ : Type} [ToD α] [ToD β] [ToD γ]
end
end Mi
set_option maxHeartbeats 1000000
namespace Mi
open PySem PySem.Spec L2
open Evl (Ex)
/-! ### objects that methods change -/
/-- what a method of such an object gives: a value, and the object as it then is -/
structure MoR (α S : Type) where
  x : α
  s : S
/-- the same, with the object's place -/
def Mo (p : Addr) (α S : Type) := MoR α S
/-- an object at its place, not frozen -/
def At (K : PySem.W.Frag) (F H : Hp) (p : Addr) : D → Prop
  | .obj c ks ds => ∃ dx vs, F p = none ∧ H p = some (.ins (He.ga K c) dx (ks.zip vs)) ∧ ks.length = vs.length ∧ Reps K F ds vs
  | _ => False
instance {p : Addr} {α S : Type} [ToD α] : ToD (Mo p α S) := ⟨fun z => ToD.d (MoR.x z)⟩
instance {p : Addr} {α S : Type} [ToD S] : ToR (Mo p α S) := ⟨fun K z v H0 F H => At K F H p (toD (MoR.s z))⟩
def Res.bind2 {α S β : Type} (m : Res (MoR α S)) (g : α → S → Res β) : Res β := m.bind fun z => g z.x z.s
section
variable {K : PySem.W.Frag} {F0 H0 F H F' H' : Hp} {σ : L2.St} {env : En}
theorem At.adv {p : Addr} {d : D} (a : Adv F H F' H') (h : At K F H p d) : At K F' H' p d := by
  cases d <;> try exact h
  obtain ⟨dx, vs, h1, h2, h3, h4⟩ := h
  exact ⟨dx, vs, a.out p h1 (by rw [h2]; simp), a.h _ _ h2, h3, Reps.mono a.f _ _ h4⟩
/-- the heap without an owned object -/
theorem SkOk.hide {sk : Sk} {v : V} {p : Addr} (hn : sk.own = true → v ≠ .ref p) (h : SkOk K H0 F H sk v) : SkOk K H0 F (hide H p) sk v := by
  cases sk with
  | im e => exact h
  | raw w => exact h
  | ow xs =>
    obtain ⟨q, vs, e1, e2, e3, e4, e5⟩ := h
    have hne : q ≠ p := fun z => hn rfl (by rw [e1, z])
    exact ⟨q, vs, e1, e2, e3, by rw [hide_ne hne]; exact e4, e5⟩
  | oi pp c ks ds =>
    obtain ⟨q, dx, vs, e1, e2, e3, e4, e5, e6, e7⟩ := h
    have hne : q ≠ p := fun z => hn rfl (by rw [e1, z])
    exact ⟨q, dx, vs, e1, e2, e3, by rw [hide_ne hne]; exact e4, e5, e6, e7⟩
theorem set_none_get {i j : Nat} {sk : Sk} (h : (env.set i none)[j]? = some (some sk)) : j ≠ i ∧ env[j]? = some (some sk) := by
  rcases set_get h with ⟨_, z⟩ | ⟨z, q⟩
  · cases z
  · exact ⟨fun w => z w.symm, q⟩
theorem Sl.hide (S : Sl K F0 H0 F H σ env) {i : Nat} {sk : Sk} {p : Addr} (hi : env[i]? = some (some sk)) (ho : sk.own = true) (hs : σ[i]? = some (some (.ref p))) (h0 : H0 p = none) (hf : F p = none) : Sl K F0 H0 F (Mi.hide H p) σ (env.set i none) := by
  refine ⟨⟨S.adv.f, fun a u q => ?_, fun a u q => ?_, S.adv.out⟩, fun j sk' q => ?_, fun j k sk1 sk2 p' hjk e1 e2 o1 o2 h1 => ?_, by rw [List.length_set]; exact S.len⟩
  · rw [hide_ne (ne_of_none q h0)]; exact S.adv.h a u q
  · rw [hide_ne (ne_of_none q hf)]; exact S.adv.in_ a u q
  · obtain ⟨z, q⟩ := set_none_get q
    obtain ⟨w, h1, h2⟩ := S.slot j sk' q
    exact ⟨w, h1, h2.hide fun o2 zz => S.dis j i _ _ p z q hi o2 ho (by rw [h1, zz]) hs⟩
  · exact S.dis j k sk1 sk2 p' hjk (set_none_get e1).2 (set_none_get e2).2 o1 o2 h1
end
/-! ### what follows a value whose expression changes an object -/
section
variable (K : PySem.W.Frag) (W : WX) (F0 H0 F : Hp) (σ : L2.St)
def KM {α S : Type} [ToD α] (env' : S → En) (envE : En) (Q : VK) : Res (MoR α S) → Prop
  | .ok z => ∀ v F' H', Ex F F' → Sl K F0 H0 F' H' σ (env' z.s) → Rep K F' (toD z.x) v → Q v H'
  | .exc c => ∀ F' H', Ex F F' → Sl K F0 H0 F' H' σ envE → W (.ref (He.ga K c)) none σ H'
  | .stuck => False
def KMA {β S : Type} [ToDs β] (env' : S → En) (envE : En) (Q : List V → Hp → Prop) : Res (MoR β S) → Prop
  | .ok z => ∀ vs F' H', Ex F F' → Sl K F0 H0 F' H' σ (env' z.s) → Reps K F' (ToDs.ds z.x) vs → Q vs H'
  | .exc c => ∀ F' H', Ex F F' → Sl K F0 H0 F' H' σ envE → W (.ref (He.ga K c)) none σ H'
  | .stuck => False
end
def EvM (K : PySem.W.Frag) (W : WX) (env : En) {S : Type} (env' : S → En) (envE : En) (te : TE) {α : Type} [ToD α] (m : Res (MoR α S)) : Prop :=
  ∀ F0 H0 F H σ Q, Sl K F0 H0 F H σ env → KM K W F0 H0 F σ env' envE Q m → te σ H Q
def EvMA (K : PySem.W.Frag) (W : WX) (env : En) {S : Type} (env' : S → En) (envE : En) (ta : TA) {β : Type} [ToDs β] (m : Res (MoR β S)) : Prop :=
  ∀ F0 H0 F H σ Q, Sl K F0 H0 F H σ env → KMA K W F0 H0 F σ env' envE Q m → ta σ H Q
/-- the promise of a method of such an object -/
def KO (K : PySem.W.Frag) (F H : Hp) (p : Addr) {α S : Type} [ToD α] [ToD S] (Q : VK) (E : XK) : Res (MoR α S) → Prop
  | .ok z => ∀ v F' H', Adv F (hide H p) F' H' → At K F' H' p (toD z.s) → Rep K F' (toD z.x) v → Q v H'
  | .exc c => ∀ F' H', Adv F (hide H p) F' H' → E (.ref (He.ga K c)) none H'
  | .stuck => False
def spO (K : PySem.W.Frag) {α S δ : Type} [ToD α] [ToD S] [ToDs δ] (f : S × δ → Res (MoR α S)) : Sp := fun vs H Q E => ∃ F s y p ws, vs = .ref p :: ws ∧ Ex F H ∧ At K F H p (toD s) ∧ Reps K F (ToDs.ds y) ws ∧ KO K F H p Q E (f (s, y))
section
variable {K : PySem.W.Frag} {W : WX} {env envE : En} {α β γ S : Type} [ToD α] [ToD β] [ToD γ] [ToD S] {env' : S → En} {te ta tb : TE} {r : R2}
end
/-! ### statements -/
section
variable {K : PySem.W.Frag} {W : WX} {F0 H0 F H : Hp} {rt : VK} {PT : En → Prop} {env envE : En} {α β S τ : Type} [ToD α] [ToD β] [ToD S] [ToD τ] [ToR τ] {KP : Res τ → Prop} {env' : S → En} {te : TE} {Z : Ends}
end
section
variable {K : PySem.W.Frag} {W : WX} {F0 H0 F H : Hp} {rt : VK} {PT : En → Prop} {env envE : En} {α S : Type} [ToD α] [ToD S] {p : Addr} {KP : Res (Mo p α S) → Prop} {env' : S → En} {te : TE} {Z : Ends}
end
section
variable {K : PySem.W.Frag} {W : WX} {F0 H0 F H : Hp} {rt : VK} {PT : En → Prop} {env : En} {S : Type} [ToD S] {p : Addr} {KP : Res (Mo p Unit S) → Prop} {Z : Ends}
end
/-! ### a method, an __init__ of such an object -/
section
variable {P : Program} {w : World} {K : PySem.W.Frag} {mg : Str → Option Value} {base : Heap} {x qual : Str} {params : Arguments} {body : List Stmt} {scope : Scope} {dvs : List V} {kws : List (Str × V)} {f : Addr} {fd : FuncData}
/-- the promise of an __init__ of such an object -/
def spJ (K : PySem.W.Frag) (c : Str) {S δ : Type} [ToD S] [ToDs δ] (f : δ → Res (MoR Unit S)) : Sp := fun vs H Q E => ∃ F y p dx ws, vs = .ref p :: ws ∧ Ex F H ∧ F p = none ∧ H p = some (.ins (He.ga K c) dx []) ∧ Reps K F (ToDs.ds y) ws ∧ KO K F H p Q E (f y)
end
/-! ### a new object that is changed later -/
def KOb (K : PySem.W.Frag) (W : WX) (F H : Hp) (σ : L2.St) {S : Type} [ToD S] (Q : VK) : Res S → Prop
  | .ok s => ∀ p F' H', Adv F H F' H' → H p = none → At K F' H' p (toD s) → Q (.ref p) H'
  | .exc c => ∀ F' H', Adv F H F' H' → W (.ref (He.ga K c)) none σ H'
  | .stuck => False
def EvO (K : PySem.W.Frag) (W : WX) (env : En) (te : TE) {S : Type} [ToD S] (m : Res S) : Prop :=
  ∀ F0 H0 F H σ Q, Sl K F0 H0 F H σ env → KOb K W F H σ Q m → te σ H Q
section
variable {K : PySem.W.Frag} {W : WX} {env : En} {S τ : Type} [ToD S] {te : TE}
/-- C(.., k = v, ..) -/
def tMakeNS (C : Addr) (n m : Nat) (sp : Sp) (gV : List V → List V → List V) (E : L2.St → XK) (t tk : TA) : TE := fun σ H Q => t σ H fun vs H1 => tk σ H1 fun zs H2 => vs.length = n ∧ zs.length = m ∧ ∀ x dx, H2 x = none → H2 dx = none → dx ≠ x →
  sp (gV (.ref x :: vs) zs) (upd (upd H2 dx (.own x)) x (.ins C dx [])) (fun v H3 => v = .non ∧ Q (.ref x) H3) (E σ)
end
section
variable {X : Cx} {CX : CXT} {k n : Nat} {f C : Addr} {fd : FuncData} {ps ks : List Str} {sp : Sp} {E : L2.St → XK} {x : Str} {p pos : Pos} {e : Expr} {es : List Expr} {kws : List Keyword} {t tk : TA} {g : List Value → List Value → List Value} {gV : List V → List V → List V}
end
section
variable {K : PySem.W.Frag} {W : WX} {F0 H0 : Hp} {rt : VK} {PT : En → Prop} {env : En} {S τ : Type} [ToD S] [ToD τ] [ToR τ] {KP : Res τ → Prop} {te : TE} {Z : Ends}
end
end Mi
set_option maxHeartbeats 1000000
namespace Mi
open PySem PySem.Spec L2
open PyProof.Rows
open Evl (Ex)
/-! ### a comprehension whose element raises -/
section
variable {X : Cx} {pins : List (Addr × Obj)} {σ : L2.St} {H3 : Hp} {s3 : Shared} {scope : Scope} {ce : Env} {fp : List Addr} {E : XK}
/-- what a block asks of a raise -/
abbrev blkX (X : Cx) (ce : Env) : Value → Shared → Prop := notedBy (model X.prog X.w) X.A ce (CompFails (model X.prog X.w) X.A X.xe ce)
theorem blk_pass (hs : X.stack = X.env :: X.outer) (hf : X.env.frame = some X.env.locals) (tk : L2.Takes X (W0 E)) (hcf : ce.frame = X.env.frame) (I3 : Inv X pins σ H3 s3) (hC : s3.heap.objs.size ≤ ce.locals)
    (hfp : ∀ b ∈ fp, (b ∈ X.ex ∨ X.s_0.heap.objs.size ≤ b) ∧ b ≠ X.env.locals ∧ (∀ x c, X.env.cells.lookup x = some c → c ≠ b) ∧ ∀ p ∈ X.pn ++ pins, p.1 ≠ b) (σb : L2.St) :
    PassesAt (L2.CX X.prog X.w) ((X.blk s3 H3 scope ce fp).wish (blkX X ce)) σb E := by
  intro ps H s e s' Ib c
  obtain ⟨a, B0, Hc, cl0, d0, rfl, fl0, _⟩ := id c
  have x := L2.XE.of_call (W := fun cls d _ H' => E cls d H') Ib (fun _ _ _ h => h) c
  obtain ⟨a2, B, sI, pinsb, σb', H', cls, d, ea, Ib', nb, up, sky, na, os, ag, w⟩ := x
  cases ea
  have fl : HandSPX.FlyingZ B X.stack a (Zc cls d) s'.heap := by
    obtain ⟨_, _, _, oe, vs, T, oT, ts, he, _, hd, h1, _, _, hT, hdT, h3⟩ := fl0
    rcases sky with ⟨_, _, _, oe', vs', he', _, hd', h1'⟩ | f | ⟨_, _, _, oe', vs', T', oT', ts', he', _, hd', h1', _, _, hT', hdT', h3'⟩
    · rw [he] at he'; cases he'
      rw [hd] at hd'; cases hd'
      rw [h1] at h1'; cases h1'
    · exact f
    · rw [he] at he'; cases he'
      rw [hd] at hd'; cases hd'
      rw [h1] at h1'; cases h1'
      rw [hT] at hT'; cases hT'
      rw [hdT] at hdT'; cases hdT'
      rw [h3] at h3'; cases h3'
  have hfr : X.A.frames = some (X.env :: X.outer) := by rw [I3.ok.frames, hs]
  rw [hs] at fl
  -- the block's dict
  obtain ⟨mC, hnC, _⟩ := Ib'.loc
  have hnC : sI.heap.Ns ce.locals mC := hnC
  have freeC : H' ce.locals = none := Ib'.free
  have Cfr : ce.locals ∉ frs X.stack := fun z => by
    have z := I3.stkSub _ z
    have q := (I3.fpOk (H' := H') hC freeC)
    rcases List.mem_cons.mp z with z | z
    · exact q.2.1 z
    · exact q.2.2.1 z
  show wpAny (model X.prog X.w) X.A (noteFrame (.ref a) ce) (fun _ s'' => CompFails (model X.prog X.w) X.A X.xe ce (.ref a) s'') _ s'
  rw [noteFrame_env _ hcf]
  refine HandSPX.looks_onZ Zc.steady hfr hf fl fun h1 held1 up1 => ?_
  have hn1 : h1.Ns ce.locals mC := (hnC.upToSlots up).upToSlots up1
  refine ⟨mC, hn1, fun h2 m2 hn2 sb => ?_⟩
  obtain ⟨b1, b0, f1, oe, vs, T, oT, ts, he, hz, hd, hv1, hnT, hTe, hT, hdT, h3v⟩ := held1
  obtain ⟨o1, es1, ep1, ho1, hd1, _⟩ := hn1
  obtain ⟨oC, esC, epC, hoC, hdC, _⟩ := id hn2
  obtain ⟨oI, esI, epI, hoI, hdI, _⟩ := hnC
  have aC : a ≠ ce.locals := fun z => by
    rw [z, ho1] at he; cases he
    rw [hd1] at hd; cases hd
  have TC : T ≠ ce.locals := fun z => by
    rw [z, ho1] at hT; cases hT
    rw [hd1] at hdT; cases hdT
  have BC : B.get? ce.locals = some oI := nb _ _ hoI Cfr
  have nfr : oC.isFreed = false := (Heap.get?_some_iff.mp hoC).2
  have B1 : (B.update ce.locals fun _ => oC).get? ce.locals = some oC := Heap.get?_update_self (fun _ => oC) BC nfr
  have B2 : ∀ b, b ≠ ce.locals → (B.update ce.locals fun _ => oC).get? b = B.get? b := fun b hb => Heap.get?_update_other _ _ (Ne.symm hb)
  have G1 : (sI.heap.update ce.locals fun _ => oC).get? ce.locals = some oC := Heap.get?_update_self (fun _ => oC) hoI nfr
  have G2 : ∀ b, b ≠ ce.locals → (sI.heap.update ce.locals fun _ => oC).get? b = sI.heap.get? b := fun b hb => Heap.get?_update_other _ _ (Ne.symm hb)
  have he2 : h2.get? a = some oe := (sb.2 a aC).trans he
  have hT2 : h2.get? T = some oT := (sb.2 T TC).trans hT
  have fr2 : h2.FunFrames (B.update ce.locals fun _ => oC) (X.env :: X.outer) := funFrames_none (Heap.FunFrames.sameBut sb hn2 f1) fun L hL => by
    rw [← hs] at hL
    rw [B2 L fun z => Cfr (z ▸ hL)]
    rw [hs] at hL
    exact (f1.mem hL).1
  have held2 : HandSPX.HeldZ (B.update ce.locals fun _ => oC) (X.env :: X.outer) a (Zc cls d) X.env.locals h2 := by
    refine ⟨fun b o hb => ?_, (B2 a aC).trans b0, fr2, oe, vs, T, oT, ts, he2, hz, hd, hv1, (B2 T TC).trans hnT, hTe, hT2, hdT, h3v⟩
    by_cases z : b = ce.locals
    · rw [z] at hb ⊢
      rw [B1] at hb; cases hb
      exact hoC
    · rw [B2 b z] at hb
      exact (sb.2 b z).trans (b1 b o hb)
  unfold PySem.passOn
  refine wpAny_bind (wpAny_field he2 hd hv1 ?_)
  rw [if_neg (show ¬ ((Value.ref T == Value.none) = true) by simp), hcf, hf]
  refine wpAny_bind (HandSPX.setFlight_onZ held2 fun h3 held3 up3 => ?_)
  refine wpAny_throw ?_
  have I7 : Inv X pins σ H' sI := I3.call' (ch := fp) Ib'.os Ib'.base Ib'.hok Ib'.bare hfp
  obtain ⟨g0, g1, g2, g3, g4, g5⟩ := I3.fpOk (H' := H') hC freeC
  have I8 := I7.turned (t' := sI.toks) (h' := sI.heap.update ce.locals fun _ => oC) (it := ce.locals) (fun b o hb e => (G2 b hb).trans e) g0 g1 g3 g4 g5
  have Ios : sI.os = X.s_0.os := I7.os
  refine tk _ _ ⟨a, B.update ce.locals fun _ => oC, _, pins, σ, H', cls, d, rfl, I8, fun b o hb hF => ?_, fun b o hb hnf => ?_, .inr (.inr ?_), na, ?_, ag, w⟩
  · by_cases z : b = ce.locals
    · rw [z] at hb ⊢
      exact B1.trans (G1.symm.trans hb)
    · rw [B2 b z]
      exact nb b o ((G2 b z).symm.trans hb) hF
  · by_cases z : b = ce.locals
    · rw [z] at hb ⊢
      have hb : some oC = some o := G1.symm.trans hb
      cases hb
      exact up3 _ _ hoC hnf
    · have hb : sI.heap.get? b = some o := (G2 b z).symm.trans hb
      obtain ⟨l1, q1⟩ := up b o hb hnf
      obtain ⟨l2, q2⟩ := up1 b _ q1 hnf
      obtain ⟨l3, q3⟩ := up3 b _ ((sb.2 b z).trans q2) hnf
      exact ⟨l3, q3⟩
  · rw [hs]; exact held3
  · exact os
theorem pe_lcE {X : Cx} {E : XK} {elt tg iter : Expr} {ifs : List Expr} {scope : Scope} {own : List (Str × Nat)} {pos : Pos} {wi : TI} {g : TG} {tt : TT} {te : TE}
    (hs : X.stack = X.env :: X.outer) (hf : X.env.frame = some X.env.locals) (tk : L2.Takes X (W0 E)) (hc : X.calm = true) (hN : X.N.Nodup)
    (hi : PI X tg iter wi) (ok : BlkOk X.N X.env.scope scope own)
    (hg : ∀ (s : Shared) (H : Hp) (C : Addr) (cl : List (Str × Addr)) (fp : List Addr), PG (X.blk s H scope (compEnvC scope cl C X.env) fp) tg g)
    (ht : ∀ (s : Shared) (H : Hp) (C : Addr) (cl : List (Str × Addr)) (fp : List Addr), PTs (X.blk s H scope (compEnvC scope cl C X.env) fp) ifs tt)
    (he : ∀ (s : Shared) (H : Hp) (C : Addr) (cl : List (Str × Addr)) (fp : List Addr),
      (∀ τ, PassesAt (L2.CX X.prog X.w) ((X.blk s H scope (compEnvC scope cl C X.env) fp).wish (blkX X (compEnvC scope cl C X.env))) τ E) →
      PE ((X.blk s H scope (compEnvC scope cl C X.env) fp).wish (blkX X (compEnvC scope cl C X.env))) elt te)
    (hfs : ∀ x, foldedSetIterable iter X.env x = pure x := by intro _; rfl) :
    PE X (.ListComp elt [⟨tg, iter, ifs, 0⟩] scope pos) (tLc wi g tt te (own.map (·.2))) := by
  refine ⟨fun pins s σ H Q I h => ?_⟩
  rw [eval_ListComp]
  have hcell : ∀ y ∈ scope.names, y.2 = .free → ∃ c, X.env.cells.lookup y.1 = some c := by
    intro y hy e
    exact (ok.free y hy e).elim (fun k => I.ok.has _ (.inl k)) (fun k => I.ok.has _ (.inr k))
  refine comprehension_at (use := none) rfl hfs (closure_ok hcell) ok.kind (fun y hy e => (ok.uniq y hy).trans (congrArg some e)) ?_
  refine thn (hi.run pins s σ H _ I h) fun _ _ hx => thn hx fun _ sA hA => ?_
  obtain ⟨it, fp, tn, J, HA, rfl, IA, TA, stA, fpA, qA⟩ := hA
  refine wpAny_newObj_type (newEnv_comp ?_) (Nat.zero_le _)
  obtain ⟨D, hD⟩ : ∃ D, D = sA.heap.objs.size := ⟨_, rfl⟩
  have dn : HA D = none := IA.hok.fresh (Nat.le_of_eq hD.symm)
  obtain ⟨WI, ⟨mI, wI⟩, turn⟩ := qA D dn
  obtain ⟨sB, hsB⟩ : ∃ sB : Shared, sB = { sA with heap := sA.heap.push { cls := .type "list", data := .seq ([] : List Value).toArray } } := ⟨_, rfl⟩
  have hB : sB.heap = sA.heap.push { cls := .type "list", data := .seq ([] : List Value).toArray } := by rw [hsB]
  have zB : sB.heap.objs.size = sA.heap.objs.size + 1 := by rw [hB, Heap.size_push]
  obtain ⟨HB, hHB⟩ : ∃ HB, HB = upd HA D (.lst []) := ⟨_, rfl⟩
  have IB : Inv X pins σ HB sB := by
    rw [hsB, hHB]
    exact IA.laid (t' := sA.toks) (fun b o e => Heap.get?_push_of_some _ e) (Nat.le_of_eq hD.symm) ⟨Nat.zero_le _, [], 0, .nil, by rw [hD]; exact Heap.get?_push_size _ rfl⟩
  have below : ∀ b ∈ fp, b < sA.heap.objs.size := fun b hb => (TA.obj _ _ stA b hb).elim fun o e => Heap.lt_size e.1
  have fpB : ∀ b ∈ fp, FpOk X pins HB b ∧ b < sB.heap.objs.size := fun b hb => by
    have lt := below b hb
    refine ⟨⟨?_, (fpA b hb).2⟩, zB ▸ Nat.lt_succ_of_lt lt⟩
    rw [hHB, upd_ne (by rw [hD]; exact Nat.ne_of_lt lt)]
    exact (fpA b hb).1
  have stB : tn 0 sB.heap := TA.keep _ _ _ stA fun b _ o e => by rw [hB]; exact Heap.get?_push_of_some _ e
  have IC := block_start IB ok hN fpB
  obtain ⟨ce, hce⟩ : ∃ ce, ce = compEnvC scope (cellsFrom (sB.heap.objs.size + 1) scope.names (cloFrom X.env.cells scope.names [])) sB.heap.objs.size X.env := ⟨_, rfl⟩
  have cL : ce.locals = sB.heap.objs.size := by rw [hce]; rfl
  have cF : ce.frame = X.env.frame := by rw [hce]; rfl
  have chB : ∀ b ∈ fp, (b ∈ X.ex ∨ X.s_0.heap.objs.size ≤ b) ∧ b ≠ X.env.locals ∧ (∀ x c, X.env.cells.lookup x = some c → c ≠ b) ∧ ∀ p ∈ X.pn ++ pins, p.1 ≠ b :=
    fun b hb => ⟨(fpB b hb).1.2.2.2.1, (fpB b hb).1.2.1, (fpB b hb).1.2.2.2.2.1, (fpB b hb).1.2.2.2.2.2⟩
  have pass : ∀ τ, PassesAt (L2.CX X.prog X.w) ((X.blk sB HB scope ce fp).wish (blkX X ce)) τ E := fun τ => blk_pass hs hf tk cF IB (Nat.le_of_eq cL.symm) chB τ
  have pgB := hg sB HB sB.heap.objs.size (cellsFrom (sB.heap.objs.size + 1) scope.names (cloFrom X.env.cells scope.names [])) fp
  have ptB := ht sB HB sB.heap.objs.size (cellsFrom (sB.heap.objs.size + 1) scope.names (cloFrom X.env.cells scope.names [])) fp
  have peB := he sB HB sB.heap.objs.size (cellsFrom (sB.heap.objs.size + 1) scope.names (cloFrom X.env.cells scope.names [])) fp
  rw [← hce] at IC pgB ptB peB
  have peB := peB pass
  have main : codeAny (model X.prog X.w) X.A (.compStart (.ListComp elt [⟨tg, iter, ifs, 0⟩] scope pos) 0 (.ref it) (.ref D) ce) (compEnds (model X.prog X.w) X.A X.xe none (EP X pins σ Q) (.ref D) ce)
      { sB with heap := pushCells (sB.heap.push { cls := .type "dict", data := .dict #[] }) scope.names } := by
    obtain ⟨sC, hsC⟩ : ∃ sC : Shared, sC = { sB with heap := pushCells (sB.heap.push { cls := .type "dict", data := .dict #[] }) scope.names } := ⟨_, rfl⟩
    rw [← hsC] at IC ⊢
    have stC : tn 0 sC.heap := TA.keep _ _ _ stB fun b _ o e => by rw [hsC]; exact pushCells_keeps _ _ _ _ (Heap.get?_push_of_some _ e)
    have still : ∀ {τ : L2.St} {G : Hp} {t : Shared}, Inv (X.blk sB HB scope ce fp) [] τ G t → (∀ b ∈ fp, G b = none) → ∀ b ∈ fp, FpOk (X.blk sB HB scope ce fp) [] G b := by
      intro τ G t J0 z b hb
      have ex := J0.ok.exf b hb
      exact ⟨z b hb, ex.1, J0.ok.exfs b hb, .inl hb, fun x c e => ex.2 x c e, fun p hp => nomatch (show p ∈ ([] : List (Addr × Obj)) from hp)⟩
    have loop : codeAny (model X.prog X.w) X.A (.compLoop (.ListComp elt [⟨tg, iter, ifs, 0⟩] scope pos) 0 (.ref it) (.ref D) ce) (compEnds (model X.prog X.w) X.A X.xe none (EP X pins σ Q) (.ref D) ce) sC := by
      refine compLoop_any (fun k t => ∃ i G, Inv (X.blk sB HB scope ce fp) [] (L2.wipe σ (own.map (·.2))) G t ∧ tn i t.heap ∧ (∀ b ∈ fp, G b = none) ∧ WI i k G) ?_ mI ⟨0, HB, IC, stC, fun b hb => (fpB b hb).1.1, hHB ▸ wI⟩
      rintro k sD ⟨i, GD, ID, stD, nD, wD⟩
      rcases turn i k GD wD with ⟨stop, qq⟩ | ⟨go, Nx, hNx, step⟩
      · refine thnF (TA.done (X.blk sB HB scope ce fp) rfl rfl rfl hc i [] sD _ GD (fun _ _ => False) ID (still ID nD) stD stop) fun r t hr => ?_
        obtain ⟨rfl, It⟩ := hr
        have IX : Inv X pins σ GD t := IB.call' (ch := fp) It.os It.base It.hok It.bare chB
        obtain ⟨m, hn, _⟩ := It.loc
        obtain ⟨f0, f1, _, f3, f4, f5⟩ := IB.fpOk (H' := GD) (b := ce.locals) (Nat.le_of_eq cL.symm) It.free
        exact ⟨m, hn, fun h'' sb => ⟨.ref D, GD, IX.turned (t' := t.toks) (fun b o hb e => (sb.2 b hb).trans e) f0 f1 f3 f4 f5, rfl, qq⟩⟩
      · refine thnF (TA.item (X.blk sB HB scope ce fp) rfl rfl rfl hc i [] sD _ GD (fun _ _ => False) ID (still ID nD) stD go) fun r t hr => ?_
        obtain ⟨u, rfl, ht0⟩ := hr
        refine thnF ht0 fun _ t1 hx1 => ?_
        obtain ⟨x, G1, J1, r1, y1, st1, n1⟩ := hx1
        refine thnF (pgB.run _ t1 _ G1 x u _ (J1.pinned (still J1 n1) (TA.obj _ _ st1)) r1 (step x G1 y1)) fun _ t2 hx2 => ?_
        obtain ⟨τ, G2, J2, hw, q2⟩ := hx2
        refine thnF (ptB.run _ t2 τ G2 _ J2 q2) fun b t3 hx3 => ?_
        obtain ⟨G3, J3, q3⟩ := hx3
        have fin : ∀ {t4 : Shared} {G4 : Hp}, Inv (X.blk sB HB scope ce fp) ([] ++ pinsAt fp t1.heap) τ G4 t4 → Nx G4 → ∃ m, m < k ∧ ∃ i G, Inv (X.blk sB HB scope ce fp) [] (L2.wipe σ (own.map (·.2))) G t4 ∧ tn i t4.heap ∧ (∀ b ∈ fp, G b = none) ∧ WI i m G := by
          intro t4 G4 J4 nx
          obtain ⟨m, lt, w4⟩ := hNx G4 nx
          have pin4 : ∀ b ∈ fp, ∀ o, t1.heap.get? b = some o → t4.heap.get? b = some o ∧ G4 b = none := by
            intro b hb o e
            have z := J4.pin (b, o) (List.mem_append_right _ (List.mem_append_right _ (mem_pinsAt hb e)))
            exact ⟨z.1, z.2.1⟩
          refine ⟨m, lt, i + 1, G4, (J4.unpinned (pins := [])).weak (by rw [← hw, wipe_length]) (fun j v e => ?_), TA.keep _ _ _ st1 (fun b hb o e => (pin4 b hb o e).1), (fun b hb => ?_), w4⟩
          · rw [← hw] at e
            exact (wipe_some e).1
          · obtain ⟨o, e, _⟩ := TA.obj _ _ st1 b hb
            exact (pin4 b hb o e).2
        cases b with
        | false => exact fin J3 q3
        | true =>
          refine wpAny_mono (peB.run _ t3 τ G3 _ (J3.wish _) q3) (fun v t4 hx4 => ?_) fun _ _ z => z
          obtain ⟨yv, G4, J4, r4, acc, hD4, hz4, nx⟩ := hx4
          exact app_ok (X := X.blk sB HB scope ce fp) J4.unwish hD4 hz4 r4 fun t5 J5 => fin J5 nx
    exact codeAny_compStart_list loop (TA.self X.A 0 _ _ _ stC loop)
  subst hce hsB hD
  exact main
theorem pe_lc2E {X : Cx} {E : XK} {elt tg iter tgB iterB : Expr} {ifs ifsB : List Expr} {scope : Scope} {own : List (Str × Nat)} {vs1 : List Nat} {pos : Pos} {wi wiB : TI} {g gB : TG} {tt ttB : TT} {te : TE}
    (hs : X.stack = X.env :: X.outer) (hf : X.env.frame = some X.env.locals) (tk : L2.Takes X (W0 E)) (hc : X.calm = true) (hN : X.N.Nodup)
    (hi : PI X tg iter wi) (ok : BlkOk X.N X.env.scope scope own)
    (hg : ∀ (s : Shared) (H : Hp) (C : Addr) (cl : List (Str × Addr)) (fp : List Addr), PG (X.blk s H scope (compEnvC scope cl C X.env) fp) tg g)
    (ht : ∀ (s : Shared) (H : Hp) (C : Addr) (cl : List (Str × Addr)) (fp : List Addr), PTs (X.blk s H scope (compEnvC scope cl C X.env) fp) ifs tt)
    (hv : ∀ i ∈ vs1, i ∈ own.map (·.2))
    (hiB : ∀ (s : Shared) (H : Hp) (C : Addr) (cl : List (Str × Addr)) (fp : List Addr),
      (∀ τ, PassesAt (L2.CX X.prog X.w) ((X.blk s H scope (compEnvC scope cl C X.env) fp).wish (blkX X (compEnvC scope cl C X.env))) τ E) →
      PI ((X.blk s H scope (compEnvC scope cl C X.env) fp).wish (blkX X (compEnvC scope cl C X.env))) tgB iterB wiB)
    (hgB : ∀ (s : Shared) (H : Hp) (C : Addr) (cl : List (Str × Addr)) (fp : List Addr), PG (X.blk s H scope (compEnvC scope cl C X.env) fp) tgB gB)
    (htB : ∀ (s : Shared) (H : Hp) (C : Addr) (cl : List (Str × Addr)) (fp : List Addr), PTs (X.blk s H scope (compEnvC scope cl C X.env) fp) ifsB ttB)
    (he : ∀ (s : Shared) (H : Hp) (C : Addr) (cl : List (Str × Addr)) (fp : List Addr), PE (X.blk s H scope (compEnvC scope cl C X.env) fp) elt te)
    (hfs : ∀ x, foldedSetIterable iter X.env x = pure x := by intro _; rfl) (hfB : ∀ env x, foldedSetIterable iterB env x = pure x := by intro _ _; rfl) :
    PE X (.ListComp elt [⟨tg, iter, ifs, 0⟩, ⟨tgB, iterB, ifsB, 0⟩] scope pos) (tLc2 wi g tt wiB gB ttB te (own.map (·.2)) vs1) := by
  refine ⟨fun pins s σ H Q I h => ?_⟩
  rw [eval_ListComp]
  have hcell : ∀ y ∈ scope.names, y.2 = .free → ∃ c, X.env.cells.lookup y.1 = some c := by
    intro y hy e
    exact (ok.free y hy e).elim (fun k => I.ok.has _ (.inl k)) (fun k => I.ok.has _ (.inr k))
  refine comprehension_at (use := none) rfl hfs (closure_ok hcell) ok.kind (fun y hy e => (ok.uniq y hy).trans (congrArg some e)) ?_
  refine thn (hi.run pins s σ H _ I h) fun _ _ hx => thn hx fun _ sA hA => ?_
  obtain ⟨it, fp, tn, J, HA, rfl, IA, TA, stA, fpA, qA⟩ := hA
  refine wpAny_newObj_type (newEnv_comp ?_) (Nat.zero_le _)
  obtain ⟨D, hD⟩ : ∃ D, D = sA.heap.objs.size := ⟨_, rfl⟩
  have dn : HA D = none := IA.hok.fresh (Nat.le_of_eq hD.symm)
  obtain ⟨WI, ⟨mI, wI⟩, turn⟩ := qA D dn
  obtain ⟨sB, hsB⟩ : ∃ sB : Shared, sB = { sA with heap := sA.heap.push { cls := .type "list", data := .seq ([] : List Value).toArray } } := ⟨_, rfl⟩
  have hB : sB.heap = sA.heap.push { cls := .type "list", data := .seq ([] : List Value).toArray } := by rw [hsB]
  have zB : sB.heap.objs.size = sA.heap.objs.size + 1 := by rw [hB, Heap.size_push]
  obtain ⟨HB, hHB⟩ : ∃ HB, HB = upd HA D (.lst []) := ⟨_, rfl⟩
  have IB : Inv X pins σ HB sB := by
    rw [hsB, hHB]
    exact IA.laid (t' := sA.toks) (fun b o e => Heap.get?_push_of_some _ e) (Nat.le_of_eq hD.symm) ⟨Nat.zero_le _, [], 0, .nil, by rw [hD]; exact Heap.get?_push_size _ rfl⟩
  have below : ∀ b ∈ fp, b < sA.heap.objs.size := fun b hb => (TA.obj _ _ stA b hb).elim fun o e => Heap.lt_size e.1
  have fpB : ∀ b ∈ fp, FpOk X pins HB b ∧ b < sB.heap.objs.size := fun b hb => by
    have lt := below b hb
    refine ⟨⟨?_, (fpA b hb).2⟩, zB ▸ Nat.lt_succ_of_lt lt⟩
    rw [hHB, upd_ne (by rw [hD]; exact Nat.ne_of_lt lt)]
    exact (fpA b hb).1
  have stB : tn 0 sB.heap := TA.keep _ _ _ stA fun b _ o e => by rw [hB]; exact Heap.get?_push_of_some _ e
  have IC := block_start IB ok hN fpB
  obtain ⟨ce, hce⟩ : ∃ ce, ce = compEnvC scope (cellsFrom (sB.heap.objs.size + 1) scope.names (cloFrom X.env.cells scope.names [])) sB.heap.objs.size X.env := ⟨_, rfl⟩
  have cL : ce.locals = sB.heap.objs.size := by rw [hce]; rfl
  have cF : ce.frame = X.env.frame := by rw [hce]; rfl
  have chB : ∀ b ∈ fp, (b ∈ X.ex ∨ X.s_0.heap.objs.size ≤ b) ∧ b ≠ X.env.locals ∧ (∀ x c, X.env.cells.lookup x = some c → c ≠ b) ∧ ∀ p ∈ X.pn ++ pins, p.1 ≠ b :=
    fun b hb => ⟨(fpB b hb).1.2.2.2.1, (fpB b hb).1.2.1, (fpB b hb).1.2.2.2.2.1, (fpB b hb).1.2.2.2.2.2⟩
  have pass : ∀ τ, PassesAt (L2.CX X.prog X.w) ((X.blk sB HB scope ce fp).wish (blkX X ce)) τ E := fun τ => blk_pass hs hf tk cF IB (Nat.le_of_eq cL.symm) chB τ
  have pgB := hg sB HB sB.heap.objs.size (cellsFrom (sB.heap.objs.size + 1) scope.names (cloFrom X.env.cells scope.names [])) fp
  have ptB := ht sB HB sB.heap.objs.size (cellsFrom (sB.heap.objs.size + 1) scope.names (cloFrom X.env.cells scope.names [])) fp
  have peB := he sB HB sB.heap.objs.size (cellsFrom (sB.heap.objs.size + 1) scope.names (cloFrom X.env.cells scope.names [])) fp
  have piB := hiB sB HB sB.heap.objs.size (cellsFrom (sB.heap.objs.size + 1) scope.names (cloFrom X.env.cells scope.names [])) fp
  have pgI := hgB sB HB sB.heap.objs.size (cellsFrom (sB.heap.objs.size + 1) scope.names (cloFrom X.env.cells scope.names [])) fp
  have ptI := htB sB HB sB.heap.objs.size (cellsFrom (sB.heap.objs.size + 1) scope.names (cloFrom X.env.cells scope.names [])) fp
  rw [← hce] at IC pgB ptB peB piB pgI ptI
  have piB := piB pass
  have main : codeAny (model X.prog X.w) X.A (.compStart (.ListComp elt [⟨tg, iter, ifs, 0⟩, ⟨tgB, iterB, ifsB, 0⟩] scope pos) 0 (.ref it) (.ref D) ce) (compEnds (model X.prog X.w) X.A X.xe none (EP X pins σ Q) (.ref D) ce)
      { sB with heap := pushCells (sB.heap.push { cls := .type "dict", data := .dict #[] }) scope.names } := by
    obtain ⟨sC, hsC⟩ : ∃ sC : Shared, sC = { sB with heap := pushCells (sB.heap.push { cls := .type "dict", data := .dict #[] }) scope.names } := ⟨_, rfl⟩
    rw [← hsC] at IC ⊢
    have stC : tn 0 sC.heap := TA.keep _ _ _ stB fun b _ o e => by rw [hsC]; exact pushCells_keeps _ _ _ _ (Heap.get?_push_of_some _ e)
    have still : ∀ {τ : L2.St} {G : Hp} {t : Shared}, Inv (X.blk sB HB scope ce fp) [] τ G t → (∀ b ∈ fp, G b = none) → ∀ b ∈ fp, FpOk (X.blk sB HB scope ce fp) [] G b := by
      intro τ G t J0 z b hb
      have ex := J0.ok.exf b hb
      exact ⟨z b hb, ex.1, J0.ok.exfs b hb, .inl hb, fun x c e => ex.2 x c e, fun p hp => nomatch (show p ∈ ([] : List (Addr × Obj)) from hp)⟩
    have loop : codeAny (model X.prog X.w) X.A (.compLoop (.ListComp elt [⟨tg, iter, ifs, 0⟩, ⟨tgB, iterB, ifsB, 0⟩] scope pos) 0 (.ref it) (.ref D) ce) (compEnds (model X.prog X.w) X.A X.xe none (EP X pins σ Q) (.ref D) ce) sC := by
      refine compLoop2_out (hfB ce) (fun k t => ∃ i G, Inv (X.blk sB HB scope ce fp) [] (L2.wipe σ (own.map (·.2))) G t ∧ tn i t.heap ∧ (∀ b ∈ fp, G b = none) ∧ WI i k G) ?_ mI ⟨0, HB, IC, stC, fun b hb => (fpB b hb).1.1, hHB ▸ wI⟩
      rintro k sD ⟨i, GD, ID, stD, nD, wD⟩
      rcases turn i k GD wD with ⟨stop, qq⟩ | ⟨go, Nx, hNx, step⟩
      · refine thnF (TA.done (X.blk sB HB scope ce fp) rfl rfl rfl hc i [] sD _ GD (fun _ _ => False) ID (still ID nD) stD stop) fun r t hr => ?_
        obtain ⟨rfl, It⟩ := hr
        have IX : Inv X pins σ GD t := IB.call' (ch := fp) It.os It.base It.hok It.bare chB
        obtain ⟨m, hn, _⟩ := It.loc
        obtain ⟨f0, f1, _, f3, f4, f5⟩ := IB.fpOk (H' := GD) (b := ce.locals) (Nat.le_of_eq cL.symm) It.free
        exact ⟨m, hn, fun h'' sb => ⟨.ref D, GD, IX.turned (t' := t.toks) (fun b o hb e => (sb.2 b hb).trans e) f0 f1 f3 f4 f5, rfl, qq⟩⟩
      · refine thnF (TA.item (X.blk sB HB scope ce fp) rfl rfl rfl hc i [] sD _ GD (fun _ _ => False) ID (still ID nD) stD go) fun r t hr => ?_
        obtain ⟨u, rfl, ht0⟩ := hr
        refine thnF ht0 fun _ t1 hx1 => ?_
        obtain ⟨x, G1, J1, r1, y1, st1, n1⟩ := hx1
        refine thnF (pgB.run _ t1 _ G1 x u _ (J1.pinned (still J1 n1) (TA.obj _ _ st1)) r1 (step x G1 y1)) fun _ t2 hx2 => ?_
        obtain ⟨τ, G2, J2, hw, q2⟩ := hx2
        refine thnF (ptB.run _ t2 τ G2 _ J2 q2) fun b t3 hx3 => ?_
        obtain ⟨G3, J3, q3⟩ := hx3
        have lenσ : (L2.wipe σ (own.map (·.2))).length = τ.length := by rw [← hw, wipe_length]
        have keepσ : ∀ (j : Nat) v, (L2.wipe σ (own.map (·.2)))[j]? = some (some v) → τ[j]? = some (some v) := by
          intro j v e
          rw [← hw] at e
          exact (wipe_some e).1
        have keepI : ∀ (j : Nat) v, (L2.wipe σ (own.map (·.2)))[j]? = some (some v) → (L2.wipe τ vs1)[j]? = some (some v) := by
          intro j v e
          rw [← hw] at e
          have z := wipe_some e
          rw [L2.wipe_out fun y => z.2 (hv j y)]
          exact z.1
        have fin : ∀ {ρ : L2.St} {t4 : Shared} {G4 : Hp}, Inv (X.blk sB HB scope ce fp) ([] ++ pinsAt fp t1.heap) ρ G4 t4 → (L2.wipe σ (own.map (·.2))).length = ρ.length → (∀ (j : Nat) v, (L2.wipe σ (own.map (·.2)))[j]? = some (some v) → ρ[j]? = some (some v)) → Nx G4 →
            ∃ m, m < k ∧ ∃ i G, Inv (X.blk sB HB scope ce fp) [] (L2.wipe σ (own.map (·.2))) G t4 ∧ tn i t4.heap ∧ (∀ b ∈ fp, G b = none) ∧ WI i m G := by
          intro ρ t4 G4 J4 len kp nx
          obtain ⟨m, lt, w4⟩ := hNx G4 nx
          have pin4 : ∀ b ∈ fp, ∀ o, t1.heap.get? b = some o → t4.heap.get? b = some o ∧ G4 b = none := by
            intro b hb o e
            have z := J4.pin (b, o) (List.mem_append_right _ (List.mem_append_right _ (mem_pinsAt hb e)))
            exact ⟨z.1, z.2.1⟩
          refine ⟨m, lt, i + 1, G4, (J4.unpinned (pins := [])).weak len kp, TA.keep _ _ _ st1 (fun b hb o e => (pin4 b hb o e).1), (fun b hb => ?_), w4⟩
          obtain ⟨o, e, _⟩ := TA.obj _ _ st1 b hb
          exact (pin4 b hb o e).2
        cases b with
        | false => exact fin J3 lenσ keepσ q3
        | true =>
          refine wpAny_mono (piB.run _ t3 τ G3 _ (J3.wish _) q3) (fun v t4 hx4 => wpAny_mono hx4 (fun _ t5 hx5 => ?_) fun _ _ z => z) fun _ _ z => z
          obtain ⟨itB, fpI, tnI, JI, GI, rfl, KI, TI_, stI, fI, WB, ⟨mB, wB⟩, turnB⟩ := hx5
          have KI := KI.unwish
          have stillI : ∀ {G : Hp}, (∀ b ∈ fpI, G b = none) → ∀ b ∈ fpI, FpOk (X.blk sB HB scope ce fp) ([] ++ pinsAt fp t1.heap) G b := fun hn b hb => ⟨hn b hb, (fI b hb).2⟩
          have loopI : codeAny (model X.prog X.w) X.A (.compLoop (.ListComp elt [⟨tg, iter, ifs, 0⟩, ⟨tgB, iterB, ifsB, 0⟩] scope pos) 1 (.ref itB) (.ref D) ce)
              (fun r t6 => match r with
                | .ok _ => ∃ m, m < k ∧ ∃ i G, Inv (X.blk sB HB scope ce fp) [] (L2.wipe σ (own.map (·.2))) G t6 ∧ tn i t6.heap ∧ (∀ b ∈ fp, G b = none) ∧ WI i m G
                | .error _ => False) t5 := by
            refine compLoop2_in (fun l t6 => ∃ j G, Inv (X.blk sB HB scope ce fp) ([] ++ pinsAt fp t1.heap) (L2.wipe τ vs1) G t6 ∧ tnI j t6.heap ∧ (∀ b ∈ fpI, G b = none) ∧ WB j l G) ?_ mB ⟨0, GI, KI.weak (wipe_length _ _) (fun j v e => (wipe_some e).1), stI, (fun b hb => (fI b hb).1), wB⟩
            rintro l t6 ⟨j, G6, J6, st6, n6, w6⟩
            rcases turnB j l G6 w6 with ⟨stopB, nxB⟩ | ⟨goB, NB, hNB, stepB⟩
            · refine thnF (TI_.done (X.blk sB HB scope ce fp) rfl rfl rfl hc j _ t6 (L2.wipe τ vs1) G6 (fun _ _ => False) J6 (stillI n6) st6 stopB) fun r t7 hr => ?_
              obtain ⟨rfl, J7⟩ := hr
              exact fin J7 (lenσ.trans (wipe_length τ vs1).symm) keepI nxB
            · refine thnF (TI_.item (X.blk sB HB scope ce fp) rfl rfl rfl hc j _ t6 (L2.wipe τ vs1) G6 (fun _ _ => False) J6 (stillI n6) st6 goB) fun r t7 hr => ?_
              obtain ⟨uB, rfl, hr⟩ := hr
              refine thnF hr fun _ t8 hx8 => ?_
              obtain ⟨xB, G8, J8, r8, y8, st8, n8⟩ := hx8
              refine thnF (pgI.run _ t8 (L2.wipe τ vs1) G8 xB uB _ (J8.pinned (stillI n8) (TI_.obj _ _ st8)) r8 (stepB xB G8 y8)) fun _ t9 hx9 => ?_
              obtain ⟨ρ, G9, J9, hwB, q9⟩ := hx9
              refine thnF (ptI.run _ t9 ρ G9 _ J9 q9) fun bB ta hxa => ?_
              obtain ⟨Ga, Ja, qa⟩ := hxa
              have finB : ∀ {tb : Shared} {Gb : Hp}, Inv (X.blk sB HB scope ce fp) (([] ++ pinsAt fp t1.heap) ++ pinsAt fpI t8.heap) ρ Gb tb → NB Gb → ∃ m, m < l ∧ ∃ j G, Inv (X.blk sB HB scope ce fp) ([] ++ pinsAt fp t1.heap) (L2.wipe τ vs1) G tb ∧ tnI j tb.heap ∧ (∀ b ∈ fpI, G b = none) ∧ WB j m G := by
                intro tb Gb Jb nb
                obtain ⟨m, lt, wb⟩ := hNB Gb nb
                have pinB : ∀ b ∈ fpI, ∀ o, t8.heap.get? b = some o → tb.heap.get? b = some o ∧ Gb b = none := by
                  intro b hb o e
                  have z := Jb.pin (b, o) (List.mem_append_right _ (List.mem_append_right _ (mem_pinsAt hb e)))
                  exact ⟨z.1, z.2.1⟩
                refine ⟨m, lt, j + 1, Gb, Jb.unpinned.weak (by rw [← hwB, wipe_length]) (fun y v e => ?_), TI_.keep _ _ _ st8 (fun b hb o e => (pinB b hb o e).1), (fun b hb => ?_), wb⟩
                · rw [← hwB] at e
                  exact (wipe_some e).1
                · obtain ⟨o, e, _⟩ := TI_.obj _ _ st8 b hb
                  exact (pinB b hb o e).2
              cases bB with
              | false => exact finB Ja qa
              | true =>
                refine thnF (peB.run _ ta ρ Ga _ Ja qa) fun v tc hxc => ?_
                obtain ⟨yv, Gc, Jc, rc, acc, hDc, hzc, nc⟩ := hxc
                exact app_ok (X := X.blk sB HB scope ce fp) Jc hDc hzc rc fun td Jd => finB Jd nc
          exact compStart1_ok loopI (TI_.self X.A 0 _ _ _ stI loopI)
    exact codeAny_compStart_list loop (TA.self X.A 0 _ _ _ stC loop)
  subst hce hsB hD
  exact main
end
section
variable {K : PySem.W.Frag} {F0 H0 F H F' H' F1 : Hp} {env env' : En} {α β : Type} [ToD α] [ToD β] {te : TE} {tt : TT} {σ : L2.St}
theorem ev_compE {E : XK} {wi : TI} {g : TG} {m : Res (List α)} {fe : α → En → En} {ws : List Nat} {tst : α → Res Bool} {el : α → Res β} (hi : EvI K (W0 E) env wi m) (hg : ∀ x, GX K g (toD x) (fe x) ws)
    (ht : ∀ x, EvT K WT (fe x (unset ws env)) tt (tst x)) (he : ∀ x, EvX K (W0 E) (fe x (unset ws env)) te (el x)) :
    EvN K (W0 E) env (tLc wi g tt te ws) (m.bind fun xs => .need (xs.length ≤ 16777216) (compL tst el xs)) := fun F0 H0 F H σ Q S k => by
  refine hi F0 H0 F H σ _ S ?_
  cases m with
  | exc c => exact k
  | stuck => exact k.elim
  | ok xs =>
  intro J F1 H1 a1 js D hD
  have k : KN K (W0 E) F H σ Q (.need (xs.length ≤ 16777216) (compL tst el xs)) := k
  by_cases c : xs.length ≤ 16777216
  case neg => rw [Res.need_neg c] at k; exact k.elim
  rw [Res.need_pos c] at k
  have hn : (xs.map toD).length = xs.length := List.length_map ..
  have hDF : F1 D = none := none_of_ex a1.in_ hD
  have hDH : H D = none := Evl.fresh_back a1.h hD
  have hD0 : H0 D = none := Evl.fresh_back S.adv.h hDH
  -- the new list is none of the slots'
  have hne : ∀ (i : Nat) (sk : Sk), env[i]? = some (some sk) → sk.own = true → σ[i]? ≠ some (some (V.ref D)) := fun i sk e ho z => by
    obtain ⟨v, e1, q⟩ := S.slot i _ e
    obtain ⟨p, o, rfl, _, _, q⟩ := q.at ho
    rw [e1] at z; cases z
    rw [hDH] at q; cases q
  have S1 : Sl K F0 H0 F1 (upd H1 D (.lst [])) σ env := (S.step a1).updN hDF hD0 hne
  refine ⟨fun i n H' => n = xs.length - i ∧ i ≤ xs.length ∧ ∃ F' acc vs, Sl K F0 H0 F' H' σ env ∧ Adv F H F' H' ∧ Ex F1 F' ∧ F' D = none ∧ H' D = some (.lst vs) ∧ Reps K F' (acc.map toD) vs ∧ acc.length ≤ i ∧
    (∀ ys, compL tst el (xs.drop i) = .ok ys → compL tst el xs = .ok (acc ++ ys)) ∧ (∀ c, compL tst el (xs.drop i) = .exc c → compL tst el xs = .exc c) ∧ (compL tst el (xs.drop i) = .stuck → compL tst el xs = .stuck),
    ⟨xs.length, rfl, Nat.zero_le _, F1, ([] : List β), [], S1, a1.trans (Adv.newO a1.in_ hD), Ex.refl _, hDF, upd_same, (show Reps K F1 [] [] from rfl), Nat.le_refl _, fun ys h => h, fun c h => h, fun h => h⟩, ?_⟩
  rintro i n H2 ⟨rfl, hle, F2, acc, vs, S2, a2, x2, f2, h2, r2, l2, q1, q2, q3⟩
  by_cases hlt : i < xs.length
  · refine .inr ⟨js.go i H2 (x2.trans a2.in_) (by rw [hn]; exact hlt), fun H' => (i + 1 ≤ xs.length ∧ ∃ F' acc vs, Sl K F0 H0 F' H' σ env ∧ Adv F H F' H' ∧ Ex F1 F' ∧ F' D = none ∧ H' D = some (.lst vs) ∧ Reps K F' (acc.map toD) vs ∧ acc.length ≤ i + 1 ∧
      (∀ ys, compL tst el (xs.drop (i + 1)) = .ok ys → compL tst el xs = .ok (acc ++ ys)) ∧ (∀ c, compL tst el (xs.drop (i + 1)) = .exc c → compL tst el xs = .exc c) ∧ (compL tst el (xs.drop (i + 1)) = .stuck → compL tst el xs = .stuck)),
      fun H' w => ⟨_, by omega, rfl, w⟩, fun v H3 hy => ?_⟩
    obtain ⟨F3, x, a3, ex, rx⟩ := js.yld i H2 v H3 F2 x2 a2.in_ (by rw [hn]; exact hlt) hy
    rw [List.getElem?_map, List.getElem?_eq_getElem hlt] at ex
    cases ex
    have e : xs.drop i = xs[i] :: xs.drop (i + 1) := List.drop_eq_getElem_cons hlt
    rw [e] at q1 q2 q3
    have S3 := S2.step a3
    refine hg xs[i] F0 H0 F3 H3 _ _ v _ (S3.wipe ws) rx fun σ' S' sl so => ⟨wipe_eq sl so, ?_⟩
    have f3 : F3 D = none := a3.out D f2 (by rw [h2]; simp)
    refine ht xs[i] F0 H0 F3 H3 σ' _ S' ?_
    cases qt : tst xs[i] with
    | exc c => exact fun _ _ _ => trivial
    | stuck =>
      have := q3 (by show (tst xs[i]).bind _ = _; rw [qt]; rfl)
      rw [this] at k; exact k.elim
    | ok b =>
    intro F4 H4 a4
    have f4 : F4 D = none := a4.out D f3 (by rw [a3.h _ _ h2]; simp)
    cases b with
    | false =>
      show i + 1 ≤ xs.length ∧ _
      refine ⟨hlt, F4, acc, vs, S3.step a4, (a2.trans a3).trans a4, (x2.trans a3.f).trans a4.f, f4, a4.h _ _ (a3.h _ _ h2), Reps.mono (a3.trans a4).f _ _ r2, by omega, fun ys h => ?_, fun c h => ?_, fun h => ?_⟩
      · exact q1 ys (by show (tst xs[i]).bind _ = _; rw [qt]; exact h)
      · exact q2 c (by show (tst xs[i]).bind _ = _; rw [qt]; exact h)
      · exact q3 (by show (tst xs[i]).bind _ = _; rw [qt]; exact h)
    | true =>
      show te σ' H4 _
      refine he xs[i] F0 H0 F4 H4 σ' _ (S'.step a4) ?_
      cases qe : el xs[i] with
      | exc c =>
        have := q2 c (by show (tst xs[i]).bind _ = _; rw [qt]; show (el xs[i]).bind _ = _; rw [qe]; rfl)
        rw [this] at k
        exact fun F' H' b => k F' H' (((a2.trans a3).trans a4).trans b)
      | stuck =>
        have := q3 (by show (tst xs[i]).bind _ = _; rw [qt]; show (el xs[i]).bind _ = _; rw [qe]; rfl)
        rw [this] at k; exact k.elim
      | ok y =>
      intro w F5 H5 a5 r5
      have f5 : F5 D = none := a5.out D f4 (by rw [a4.h _ _ (a3.h _ _ h2)]; simp)
      have h5 : H5 D = some (.lst vs) := a5.h _ _ (a4.h _ _ (a3.h _ _ h2))
      have ad := ((a2.trans a3).trans a4).trans a5
      refine ⟨vs, h5, by rw [sizeLine_eq, ← r2.length, List.length_map]; omega, hlt, F5, acc ++ [y], vs ++ [w], ((S3.step a4).step a5).updN f5 hD0 hne, ⟨ad.f, fun a u q => ?_, fun a u q => ?_, ad.out⟩,
        ((x2.trans a3.f).trans a4.f).trans a5.f, f5, upd_same, ?_, by rw [List.length_append]; simp; omega, fun ys h => ?_, fun c h => ?_, fun h => ?_⟩
      · rw [upd_ne (ne_of_none q hDH)]; exact ad.h a u q
      · rw [upd_ne (ne_of_none q f5)]; exact ad.in_ a u q
      · rw [List.map_append]
        exact Reps.append (Reps.mono ((a3.trans a4).trans a5).f _ _ r2) (Reps.one r5)
      · rw [q1 (y :: ys) (by show (tst xs[i]).bind _ = _; rw [qt]; show (el xs[i]).bind _ = _; rw [qe]; show (compL tst el _).bind _ = _; rw [h]; rfl)]
        rw [List.append_assoc]; rfl
      · exact q2 c (by show (tst xs[i]).bind _ = _; rw [qt]; show (el xs[i]).bind _ = _; rw [qe]; show (compL tst el _).bind _ = _; rw [h]; rfl)
      · exact q3 (by show (tst xs[i]).bind _ = _; rw [qt]; show (el xs[i]).bind _ = _; rw [qe]; show (compL tst el _).bind _ = _; rw [h]; rfl)
  · have e : xs.drop i = [] := List.drop_of_length_le (by omega)
    rw [e] at q1
    have := q1 [] rfl
    rw [List.append_nil] at this
    rw [this] at k
    exact .inl ⟨js.stop i H2 (x2.trans a2.in_) (by rw [hn]; omega), k D vs F2 H2 a2 hDH f2 h2 r2⟩
end
noncomputable def compL2G {α β γ : Type} (it : α → Res (List β)) (el : α → β → γ) : List α → List γ → Res (List γ)
  | [], acc => .ok acc
  | x :: xs, acc => (it x).bind fun ys => .need (acc.length + ys.length ≤ 16777216) (compL2G it el xs (acc ++ ys.map (el x)))
section
variable {K : PySem.W.Frag} {env : En} {te : TE} {α β γ : Type} [ToD α] [ToD β] [ToD γ]
theorem ev_comp2E {E : XK} {wi wi1 : TI} {g g1 : TG} {m : Res (List α)} {fe : α → En → En} {fe1 : α → β → En → En} {ws ws1 : List Nat} {it : α → Res (List β)} {el : α → β → γ} (hi : EvI K (W0 E) env wi m) (hg : ∀ x, GX K g (toD x) (fe x) ws)
    (hi1 : ∀ x, EvI K (W0 E) (fe x (unset ws env)) wi1 (it x)) (hg1 : ∀ x y, GX K g1 (toD y) (fe1 x y) ws1) (he : ∀ x y, EvX K WT (fe1 x y (unset ws1 (fe x (unset ws env)))) te (.ok (el x y))) (ho : ∀ x, OwnIn (fe x (unset ws env)) env ws) :
    EvN K (W0 E) env (tLc2 wi g tYes wi1 g1 tYes te ws ws1) (m.bind fun xs => compL2G it el xs []) := fun F0 H0 F H σ Q S k => by
  refine hi F0 H0 F H σ _ S ?_
  cases m with
  | exc c => exact k
  | stuck => exact k.elim
  | ok xs =>
  intro J F1 H1 a1 js D hD
  have k : KN K (W0 E) F H σ Q (compL2G it el xs []) := k
  generalize hR : compL2G it el xs [] = R at k
  have hn : (xs.map toD).length = xs.length := List.length_map ..
  have hDF : F1 D = none := none_of_ex a1.in_ hD
  have hDH : H D = none := Evl.fresh_back a1.h hD
  have hne : ∀ (i : Nat) (sk : Sk), env[i]? = some (some sk) → sk.own = true → σ[i]? ≠ some (some (V.ref D)) := fun i sk e ho z => by
    obtain ⟨v, e1, q⟩ := S.slot i _ e
    obtain ⟨p, o, rfl, _, _, q⟩ := q.at ho
    rw [e1] at z; cases z
    rw [hDH] at q; cases q
  have S1 : Sl K F0 H0 F1 (upd H1 D (.lst [])) σ env := (S.step a1).updN hDF (Evl.fresh_back S.adv.h hDH) hne
  have hD0 : H0 D = none := Evl.fresh_back S.adv.h hDH
  refine ⟨fun i n H' => n = xs.length - i ∧ i ≤ xs.length ∧ ∃ F' acc vs, Sl K F0 H0 F' H' σ env ∧ Adv F H F' H' ∧ Ex F1 F' ∧ F' D = none ∧ H' D = some (.lst vs) ∧ Reps K F' (acc.map toD) vs ∧ compL2G it el (xs.drop i) acc = R,
    ⟨xs.length, rfl, Nat.zero_le _, F1, ([] : List γ), [], S1, a1.trans (Adv.newO a1.in_ hD), Ex.refl _, hDF, upd_same, (show Reps K F1 [] [] from rfl), hR⟩, ?_⟩
  rintro i n H2 ⟨rfl, hle, F2, acc, vs, S2, a2, x2, f2, h2, r2, q1⟩
  by_cases hlt : i < xs.length
  · have e : xs.drop i = xs[i] :: xs.drop (i + 1) := List.drop_eq_getElem_cons hlt
    rw [e] at q1
    have q1 : (it xs[i]).bind (fun ys => .need (acc.length + ys.length ≤ 16777216) (compL2G it el (xs.drop (i + 1)) (acc ++ ys.map (el xs[i])))) = R := q1
    refine .inr ⟨js.go i H2 (x2.trans a2.in_) (by rw [hn]; exact hlt), fun H' => (i + 1 ≤ xs.length ∧ ∃ F' acc vs, Sl K F0 H0 F' H' σ env ∧ Adv F H F' H' ∧ Ex F1 F' ∧ F' D = none ∧ H' D = some (.lst vs) ∧ Reps K F' (acc.map toD) vs ∧ compL2G it el (xs.drop (i + 1)) acc = R),
      fun H' w => ⟨_, by omega, rfl, w⟩, fun v H3 hy => ?_⟩
    obtain ⟨F3, x, a3, ex, rx⟩ := js.yld i H2 v H3 F2 x2 a2.in_ (by rw [hn]; exact hlt) hy
    rw [List.getElem?_map, List.getElem?_eq_getElem hlt] at ex
    cases ex
    have S3 := S2.step a3
    refine hg xs[i] F0 H0 F3 H3 _ _ v _ (S3.wipe ws) rx fun σ' S' sl so => ⟨wipe_eq sl so, ?_⟩
    have f3 : F3 D = none := a3.out D f2 (by rw [h2]; simp)
    have h3 : H3 D = some (.lst vs) := a3.h _ _ h2
    show wi1 σ' H3 _
    refine hi1 xs[i] F0 H0 F3 H3 σ' _ S' ?_
    cases b1 : it xs[i] with
    | exc c =>
      rw [b1] at q1
      have q1 : .exc c = R := q1
      rw [← q1] at k
      exact fun F' H' b => k F' H' ((a2.trans a3).trans b)
    | stuck =>
      rw [b1] at q1
      have q1 : .stuck = R := q1
      rw [← q1] at k
      exact k.elim
    | ok ys =>
    rw [b1, Res.bind_ok] at q1
    by_cases cN : acc.length + ys.length ≤ 16777216
    case neg => rw [Res.need_neg cN] at q1; rw [← q1] at k; exact k.elim
    rw [Res.need_pos cN] at q1
    intro J1 F4 H4 a4 js1
    have f4 : F4 D = none := a4.out D f3 (by rw [h3]; simp)
    have h4 : H4 D = some (.lst vs) := a4.h _ _ h3
    have hn1 : (ys.map toD).length = ys.length := List.length_map ..
    have hneA : ∀ (j : Nat) (sk : Sk), (fe (xs[i]'hlt) (unset ws env))[j]? = some (some sk) → sk.own = true → σ'[j]? ≠ some (some (V.ref D)) := fun j sk e1 e2 z => by
      obtain ⟨e3, e4⟩ := ho (xs[i]'hlt) j sk e1 e2
      rw [so j e4, wipe_out e4] at z
      exact hne j sk e3 e2 z
    refine ⟨fun j n1 H' => n1 = ys.length - j ∧ j ≤ ys.length ∧ ∃ F' dn vs1, Sl K F0 H0 F' H' σ env ∧ Sl K F0 H0 F' H' σ' (fe (xs[i]'hlt) (unset ws env)) ∧ Adv F H F' H' ∧ Ex F1 F' ∧ Ex F4 F' ∧ F' D = none ∧ H' D = some (.lst vs1) ∧ Reps K F' ((acc ++ dn).map toD) vs1 ∧ dn ++ (ys.drop j).map (el (xs[i]'hlt)) = ys.map (el (xs[i]'hlt)),
      ⟨ys.length, rfl, Nat.zero_le _, F4, [], vs, S3.step a4, S'.step a4, (a2.trans a3).trans a4, (x2.trans a3.f).trans a4.f, Ex.refl _, f4, h4, (by rw [List.append_nil]; exact Reps.mono (a3.trans a4).f _ _ r2), rfl⟩, ?_⟩
    rintro j n1 H5 ⟨rfl, hle1, F5, dn, vs1, S5, S5', a5, x5, x5', f5, h5, r5, p1⟩
    by_cases hlt1 : j < ys.length
    · have e1 : ys.drop j = ys[j] :: ys.drop (j + 1) := List.drop_eq_getElem_cons hlt1
      rw [e1] at p1
      refine .inr ⟨js1.go j H5 (x5'.trans a5.in_) (by rw [hn1]; exact hlt1), fun H' => (j + 1 ≤ ys.length ∧ ∃ F' dn vs1, Sl K F0 H0 F' H' σ env ∧ Sl K F0 H0 F' H' σ' (fe (xs[i]'hlt) (unset ws env)) ∧ Adv F H F' H' ∧ Ex F1 F' ∧ Ex F4 F' ∧ F' D = none ∧ H' D = some (.lst vs1) ∧ Reps K F' ((acc ++ dn).map toD) vs1 ∧ dn ++ (ys.drop (j + 1)).map (el (xs[i]'hlt)) = ys.map (el (xs[i]'hlt))),
        fun H' w => ⟨_, by omega, rfl, w⟩, fun u H6 hy1 => ?_⟩
      obtain ⟨F6, y, a6, ey, ry⟩ := js1.yld j H5 u H6 F5 x5' a5.in_ (by rw [hn1]; exact hlt1) hy1
      rw [List.getElem?_map, List.getElem?_eq_getElem hlt1] at ey
      cases ey
      refine hg1 (xs[i]'hlt) ys[j] F0 H0 F6 H6 _ _ u _ ((S5'.step a6).wipe ws1) ry fun σ'' S'' sl1 so1 => ⟨wipe_eq sl1 so1, ?_⟩
      show te σ'' H6 _
      refine he (xs[i]'hlt) ys[j] F0 H0 F6 H6 σ'' _ S'' ?_
      intro w F7 H7 a7 r7
      have f6 : F6 D = none := a6.out D f5 (by rw [h5]; simp)
      have h6 : H6 D = some (.lst vs1) := a6.h _ _ h5
      have f7 : F7 D = none := a7.out D f6 (by rw [h6]; simp)
      have h7 : H7 D = some (.lst vs1) := a7.h _ _ h6
      have ad := (a5.trans a6).trans a7
      have len : (acc ++ dn).length < 16777216 := by
        have := congrArg List.length p1
        rw [List.length_append, List.length_map, List.length_map, List.length_cons] at this
        rw [List.length_append]
        omega
      refine ⟨vs1, h7, by rw [sizeLine_eq, ← r5.length, List.length_map]; omega, hlt1, F7, dn ++ [el (xs[i]'hlt) ys[j]], vs1 ++ [w], ((S5.step a6).step a7).updN f7 hD0 hne, ((S5'.step a6).step a7).updN f7 hD0 hneA, ⟨ad.f, fun a u q => ?_, fun a u q => ?_, ad.out⟩,
        (x5.trans a6.f).trans a7.f, (x5'.trans a6.f).trans a7.f, f7, upd_same, ?_, ?_⟩
      · rw [upd_ne (ne_of_none q hDH)]; exact ad.h a u q
      · rw [upd_ne (ne_of_none q f7)]; exact ad.in_ a u q
      · rw [← List.append_assoc, List.map_append]
        exact Reps.append (Reps.mono (a6.trans a7).f _ _ r5) (Reps.one r7)
      · rw [← p1, List.append_assoc]; rfl
    · have e1 : ys.drop j = [] := List.drop_of_length_le (by omega)
      rw [e1] at p1
      have p1 : dn = ys.map (el (xs[i]'hlt)) := by rw [← p1]; exact (List.append_nil _).symm
      exact .inl ⟨js1.stop j H5 (x5'.trans a5.in_) (by rw [hn1]; omega), hlt, F5, acc ++ dn, vs1, S5, a5, x5, f5, h5, r5, by rw [p1]; exact q1⟩
  · have e : xs.drop i = [] := List.drop_of_length_le (by omega)
    rw [e] at q1
    have q1 : .ok acc = R := q1
    rw [← q1] at k
    exact .inl ⟨js.stop i H2 (x2.trans a2.in_) (by rw [hn]; omega), k D vs F2 H2 a2 hDH f2 h2 r2⟩
end
/-! ### a name that a loop sets, and that is read behind it -/
abbrev lateM {α : Type} [ToD α] (o : Option α) : Option Sk := o.bind iM
end Mi
set_option maxHeartbeats 4000000
namespace Mi
open PySem PySem.Spec L2 PyProof.Rows
open Evl (Ex)
/-! ### a tuple some times, none and once too -/
theorem tmul_one (a : Addr) (xs : Array Value) (n : Nat) (dd : Option Addr) (sl : Array (Option Value)) (u : Tok) :
    Meets (Builtin.«tuple.__mul__» ⟨[.ref a, .int 1 u], []⟩) (fun _ R s => s.heap.get? a = some { cls := .type "tuple", dict := dd, data := .seq xs n, slots := sl } ∧ R (.ok (.ret (Value.ref a))) s) :=
  .of_wp fun prog w A R s h => by
    obtain ⟨hp, g, d, tk, os⟩ := s
    obtain ⟨ho, h⟩ := h
    have f1 := AutoSeq1.idx_int
    have c1 : (xs.isEmpty || (1 : Int) == 1) = true := by
      rw [show ((1 : Int) == 1) = true from rfl, Bool.or_true]
    wp_walk using wpAny_loadPart' ho
    repeat (first
      | (refine wpAny_ite_true (decide_eq_true (by rw [c1])) ?_; wp_walk using wpAny_loadPart' ho)
      | (refine wpAny_ite_true (decide_eq_true rfl) ?_; wp_walk using wpAny_loadPart' ho)
      | (refine wpAny_ite_false (decide_eq_false (by decide)) ?_; wp_walk using wpAny_loadPart' ho))
    exact ⟨_, rfl, h⟩
theorem tmul_none (a : Addr) (xs : Array Value) (n : Nat) (dd : Option Addr) (sl : Array (Option Value)) (u : Tok) (hn : xs.isEmpty = false) :
    Meets (Builtin.«tuple.__mul__» ⟨[.ref a, .int 0 u], []⟩) (fun _ R s => s.heap.get? a = some { cls := .type "tuple", dict := dd, data := .seq xs n, slots := sl } ∧
      R (.ok (.ret (Value.ref s.heap.objs.size))) { s with heap := s.heap.push { cls := Value.type "tuple", data := Data.seq #[] }, toks := s.toks }) :=
  .of_wp fun prog w A R s h => by
    obtain ⟨hp, g, d, tk, os⟩ := s
    obtain ⟨ho, h⟩ := h
    have f1 := AutoSeq1.idx_int
    have c1 : (xs.isEmpty || (0 : Int) == 1) = false := by
      rw [hn]
      rfl
    wp_walk using wpAny_loadPart' ho
    repeat (first
      | (refine wpAny_ite_false (decide_eq_false (by rw [c1]; exact Bool.false_ne_true)) ?_; wp_walk using wpAny_loadPart' ho)
      | (refine wpAny_ite_true (decide_eq_true (by rfl)) ?_; wp_walk using wpAny_loadPart' ho)
      | (refine wpAny_ite_false (decide_eq_false (by decide)) ?_; wp_walk using wpAny_loadPart' ho))
    exact ⟨_, rfl, h⟩

def rRepTA (K : PySem.W.Frag) : R2 := fun x y H Q => ∃ a k xs, x = .ref a ∧ y = .int k ∧ SqT K H a xs ∧ xs ≠ [] ∧ 0 ≤ k ∧ k ≤ 1000 ∧ xs.length ≤ 1000 ∧ (k = 1 → Q (.ref a) H) ∧
  (k ≠ 1 → ∀ p, H p = none → Q (.ref p) (upd H p (.tup (List.replicate k.toNat xs).flatten)))
theorem op_repTA {X : Cx} : OpR X (binaryOp .Mult) (rRepTA X.K) := by
  intro pins s σ H x y v u Q I rx ry h
  obtain ⟨a, k, xs, rfl, rfl, hT, hne, h0, h1, hz, q1, q2⟩ := h
  by_cases hk : 2 ≤ k
  · exact L2.op_repT pins s σ H _ _ v u Q I rx ry ⟨a, k, xs, rfl, rfl, hT, hne, hk, h1, hz, q2 (by omega)⟩
  cases rx
  obtain ⟨t, rfl⟩ := ry
  obtain ⟨its, r, ⟨⟨cls, dd, data, sl⟩, ho, hc, n, hd⟩, hs⟩ := I.tuple hT
  simp only at hc hd
  subst hc hd
  have hi : its.toArray.isEmpty = false := by
    cases its with
    | nil => exact absurd (List.eq_nil_of_length_eq_zero r.length) hne
    | cons _ _ => rfl
  have hk2 : k = 1 ∨ k = 0 := by omega
  rcases hk2 with rfl | rfl
  · refine wpAny_binaryOp_repeat_ref (T := "tuple") (U := "int") (by decide) ⟨_, ho, rfl⟩ (fun s' => typeIs_int s' 1 t) noFill_tuple_mul F.fills_int_mul F.slot_int_rmul repeat_tuple F.slot_int_index.lookup
      (call_meets F.slot_int_rmul (typeIs_int s 1 t) F.entry_int_rmul (F.args_int_rmul_2 _ _) (int_rmul_tuple 1 t a its.toArray n dd sl)
        ⟨ho, rfl, ⟨_, ho, rfl⟩, call_meets F.slot_tuple_mul ⟨_, ho, rfl⟩ F.entry_tuple_mul (F.args_tuple_mul_2 _ _) (tmul_one a its.toArray n dd sl t) ⟨ho, ?_⟩⟩)
    exact ⟨.ref a, H, I, rfl, q1 rfl⟩
  · refine wpAny_binaryOp_repeat_ref (T := "tuple") (U := "int") (by decide) ⟨_, ho, rfl⟩ (fun s' => typeIs_int s' 0 t) noFill_tuple_mul F.fills_int_mul F.slot_int_rmul repeat_tuple F.slot_int_index.lookup
      (call_meets F.slot_int_rmul (typeIs_int s 0 t) F.entry_int_rmul (F.args_int_rmul_2 _ _) (int_rmul_tuple 0 t a its.toArray n dd sl)
        ⟨ho, rfl, ⟨_, ho, rfl⟩, call_meets F.slot_tuple_mul ⟨_, ho, rfl⟩ F.entry_tuple_mul (F.args_tuple_mul_2 _ _) (tmul_none a its.toArray n dd sl t hi) ⟨ho, ?_⟩⟩)
    refine ⟨.ref s.heap.objs.size, _, I.laid (t' := s.toks) (o := .tup []) (fun b ob q => Heap.get?_push_of_some _ q) (Nat.le_refl _) ?_, rfl, q2 (by decide) _ (I.hok.fresh (Nat.le_refl _))⟩
    exact ⟨Nat.zero_le _, [], by first | constructor | exact rfl | trivial, IsTup.new _ _⟩
section
variable {K : PySem.W.Frag} {α : Type} [ToD α]
theorem opx_repTA : OpX K (rRepTA K) (fun (x : Tu α) (k : Int) => .need (x.xs ≠ [] ∧ 0 ≤ k ∧ k ≤ 1000 ∧ x.xs.length ≤ 1000) (.ok (Tu.mk (List.replicate k.toNat x.xs).flatten))) := fun F H x y v u Q e h1 h2 kq => by
  obtain ⟨a, vs, rfl, s1, r1⟩ := h1
  cases (show u = V.int y from h2)
  by_cases c : x.xs ≠ [] ∧ 0 ≤ y ∧ y ≤ 1000 ∧ x.xs.length ≤ 1000
  · simp only [Res.need_pos c] at kq
    have l1 := r1.length
    rw [List.length_map] at l1
    refine ⟨a, y, vs, rfl, rfl, Evl.ex_t e s1, fun z => ?_, c.2.1, c.2.2.1, by rw [← l1]; exact c.2.2.2, fun z => ?_, fun _ p hp => ?_⟩
    · subst z; exact c.1 (List.length_eq_zero_iff.mp l1)
    · subst z
      refine kq _ _ _ (Adv.refl e) ⟨a, vs, rfl, s1, ?_⟩
      have : (List.replicate (1 : Int).toNat x.xs).flatten = x.xs := by
        show (List.replicate 1 x.xs).flatten = _
        rw [List.replicate_one, List.flatten_singleton]
      rw [this]
      exact r1
    · refine kq _ _ _ (Adv.new e hp) ⟨p, _, rfl, .inl (.inl upd_same), ?_⟩
      have := Reps.flat r1 y.toNat
      rw [List.map_flatten, List.map_replicate]
      exact Reps.mono (Adv.new (o := .tup (List.replicate y.toNat vs).flatten) e hp).f _ _ this
  · simp only [Res.need_neg c] at kq
    exact kq.elim
end
end Mi
set_option maxHeartbeats 4000000
namespace Mi
open PySem PySem.Spec L2
def topS (i : Nat) : Stmt := PySem.Challenge.pw_curveseal_k31_trees_and_pairs.main.body.getD i (.Pass ⟨0, 0, 0, 0⟩)

abbrev s_is_whole : Stmt := topS 5
theorem sc_is_whole : FnScope ["value"] ["value"] (defScope s_is_whole) := ⟨rfl, rfl, rfl, by decide +kernel, rfl, by decide +kernel, by decide +kernel⟩
abbrev s_to_little : Stmt := topS 6
theorem sc_to_little : FnScope ["number", "size", "at"] ["number", "size"] (defScope s_to_little) := ⟨rfl, rfl, rfl, by decide +kernel, rfl, by decide +kernel, by decide +kernel⟩
abbrev s_to_big : Stmt := topS 7
theorem sc_to_big : FnScope ["number", "size"] ["number", "size"] (defScope s_to_big) := ⟨rfl, rfl, rfl, by decide +kernel, rfl, by decide +kernel, by decide +kernel⟩
abbrev s_from_big : Stmt := topS 8
theorem sc_from_big : FnScope ["data", "number", "byte"] ["data"] (defScope s_from_big) := ⟨rfl, rfl, rfl, by decide +kernel, rfl, by decide +kernel, by decide +kernel⟩
abbrev s_is_bytes : Stmt := topS 9
theorem sc_is_bytes : FnScope ["value", "item"] ["value"] (defScope s_is_bytes) := ⟨rfl, rfl, rfl, by decide +kernel, rfl, by decide +kernel, by decide +kernel⟩
abbrev s_write_length : Stmt := topS 18
theorem sc_write_length : FnScope ["size"] ["size"] (defScope s_write_length) := ⟨rfl, rfl, rfl, by decide +kernel, rfl, by decide +kernel, by decide +kernel⟩
abbrev s_read_length : Stmt := topS 19
theorem sc_read_length : FnScope ["data", "at", "first", "behind", "size"] ["data", "at"] (defScope s_read_length) := ⟨rfl, rfl, rfl, by decide +kernel, rfl, by decide +kernel, by decide +kernel⟩
abbrev s_write_number : Stmt := topS 20
theorem sc_write_number : FnScope ["number"] ["number"] (defScope s_write_number) := ⟨rfl, rfl, rfl, by decide +kernel, rfl, by decide +kernel, by decide +kernel⟩
abbrev s_u_number_content : Stmt := topS 21
theorem sc_u_number_content : FnScope ["number"] ["number"] (defScope s_u_number_content) := ⟨rfl, rfl, rfl, by decide +kernel, rfl, by decide +kernel, by decide +kernel⟩
abbrev s_u_part : Stmt := topS 22
theorem sc_u_part : FnScope ["tag", "content"] ["tag", "content"] (defScope s_u_part) := ⟨rfl, rfl, rfl, by decide +kernel, rfl, by decide +kernel, by decide +kernel⟩
abbrev s_write_pair : Stmt := topS 23
theorem sc_write_pair : FnScope ["first", "second"] ["first", "second"] (defScope s_write_pair) := ⟨rfl, rfl, rfl, by decide +kernel, rfl, by decide +kernel, by decide +kernel⟩
abbrev s_read_pair : Stmt := topS 24
theorem sc_read_pair : FnScope ["data", "tag", "content", "parts", "inner", "_"] ["data"] (defScope s_read_pair) := ⟨rfl, rfl, rfl, by decide +kernel, rfl, by decide +kernel, by decide +kernel⟩
abbrev s_u_only_part : Stmt := topS 25
theorem sc_u_only_part : FnScope ["data", "parts"] ["data"] (defScope s_u_only_part) := ⟨rfl, rfl, rfl, by decide +kernel, rfl, by decide +kernel, by decide +kernel⟩
abbrev s_u_split_parts : Stmt := topS 26
theorem sc_u_split_parts : FnScope ["data", "parts", "at", "size", "start", "behind"] ["data"] (defScope s_u_split_parts) := ⟨rfl, rfl, rfl, by decide +kernel, rfl, by decide +kernel, by decide +kernel⟩
abbrev s_u_number : Stmt := topS 27
theorem sc_u_number : FnScope ["content", "number"] ["content"] (defScope s_u_number) := ⟨rfl, rfl, rfl, by decide +kernel, rfl, by decide +kernel, by decide +kernel⟩
abbrev s_write_tree : Stmt := topS 28
theorem sc_write_tree : FnScope ["value"] ["value"] (defScope s_write_tree) := ⟨rfl, rfl, rfl, by decide +kernel, rfl, by decide +kernel, by decide +kernel⟩
abbrev s_u_levels : Stmt := topS 29
theorem sc_u_levels : FnScope ["value", "item"] ["value"] (defScope s_u_levels) := ⟨rfl, rfl, rfl, by decide +kernel, rfl, by decide +kernel, by decide +kernel⟩
abbrev s_u_part_count : Stmt := topS 30
theorem sc_u_part_count : FnScope ["value", "item"] ["value"] (defScope s_u_part_count) := ⟨rfl, rfl, rfl, by decide +kernel, rfl, by decide +kernel, by decide +kernel⟩
abbrev s_u_tree_part : Stmt := topS 31
theorem sc_u_tree_part : FnScope ["value", "item", "byte"] ["value"] (defScope s_u_tree_part) := ⟨rfl, rfl, rfl, by decide +kernel, rfl, by decide +kernel, by decide +kernel⟩
abbrev s_read_tree : Stmt := topS 32
theorem sc_read_tree : FnScope ["data", "tag", "content", "value"] ["data"] (defScope s_read_tree) := ⟨rfl, rfl, rfl, by decide +kernel, rfl, by decide +kernel, by decide +kernel⟩
abbrev s_u_tree_value : Stmt := topS 33
theorem sc_u_tree_value : FnScope ["tag", "content", "levels", "inner", "part"] ["tag", "content", "levels"] (defScope s_u_tree_value) := ⟨rfl, rfl, rfl, by decide +kernel, rfl, by decide +kernel, by decide +kernel⟩
abbrev s_u_law_cell : Stmt := topS 35
theorem sc_u_law_cell : FnScope ["script", "k"] ["script", "k"] (defScope s_u_law_cell) := ⟨rfl, rfl, rfl, by decide +kernel, rfl, by decide +kernel, by decide +kernel⟩
abbrev s_u_law_twice : Stmt := topS 36
theorem sc_u_law_twice : FnScope ["cell", "k", "x"] ["cell", "k"] (defScope s_u_law_twice) := ⟨rfl, rfl, rfl, by decide +kernel, rfl, by decide +kernel, by decide +kernel⟩
abbrev s_u_law_integer : Stmt := topS 38
theorem sc_u_law_integer : FnScope ["x"] ["x"] (defScope s_u_law_integer) := ⟨rfl, rfl, rfl, by decide +kernel, rfl, by decide +kernel, by decide +kernel⟩
abbrev s_u_law_is_list : Stmt := topS 39
theorem sc_u_law_is_list : FnScope ["found", "due", "one", "other"] ["found", "due"] (defScope s_u_law_is_list) := ⟨rfl, rfl, rfl, by decide +kernel, rfl, by decide +kernel, by decide +kernel⟩
abbrev s_u_law_length : Stmt := topS 40
theorem sc_u_law_length : FnScope ["size"] ["size"] (defScope s_u_law_length) := ⟨rfl, rfl, rfl, by decide +kernel, rfl, by decide +kernel, by decide +kernel⟩
abbrev s_u_law_form : Stmt := topS 41
theorem sc_u_law_form : FnScope ["number", "content", "left", "turn"] ["number"] (defScope s_u_law_form) := ⟨rfl, rfl, rfl, by decide +kernel, rfl, by decide +kernel, by decide +kernel⟩
abbrev s_u_law_tree : Stmt := topS 42
theorem sc_u_law_tree : FnScope ["value", "content", "item"] ["value"] (defScope s_u_law_tree) := ⟨rfl, rfl, rfl, by decide +kernel, rfl, by decide +kernel, by decide +kernel⟩
abbrev s_u_law_value : Stmt := topS 43
theorem sc_u_law_value : FnScope ["cell", "k", "deep", "most", "draw", "items", "count", "j"] ["cell", "k", "deep", "most"] (defScope s_u_law_value) := ⟨rfl, rfl, rfl, by decide +kernel, rfl, by decide +kernel, by decide +kernel⟩
abbrev s_u_law_deep : Stmt := topS 44
theorem sc_u_law_deep : FnScope ["value", "item"] ["value"] (defScope s_u_law_deep) := ⟨rfl, rfl, rfl, by decide +kernel, rfl, by decide +kernel, by decide +kernel⟩
abbrev s_u_law_parts : Stmt := topS 45
theorem sc_u_law_parts : FnScope ["value", "item"] ["value"] (defScope s_u_law_parts) := ⟨rfl, rfl, rfl, by decide +kernel, rfl, by decide +kernel, by decide +kernel⟩
abbrev s_u_law_call : Stmt := topS 46
theorem sc_u_law_call : FnScope ["which", "data"] ["which", "data"] (defScope s_u_law_call) := ⟨rfl, rfl, rfl, by decide +kernel, rfl, by decide +kernel, by decide +kernel⟩
abbrev s_u_law_told : Stmt := topS 47
theorem sc_u_law_told : FnScope ["which", "data"] ["which", "data"] (defScope s_u_law_told) := ⟨rfl, rfl, rfl, by decide +kernel, rfl, by decide +kernel, by decide +kernel⟩
abbrev s_u_law_wide : Stmt := topS 48
theorem sc_u_law_wide : FnScope ["cell", "value", "turn"] ["cell"] (defScope s_u_law_wide) := ⟨rfl, rfl, rfl, by decide +kernel, rfl, by decide +kernel, by decide +kernel⟩
abbrev s_u_law_near : Stmt := topS 49
theorem sc_u_law_near : FnScope ["form", "cell", "data", "at"] ["form", "cell"] (defScope s_u_law_near) := ⟨rfl, rfl, rfl, by decide +kernel, rfl, by decide +kernel, by decide +kernel⟩
abbrev s_u_law_is_number : Stmt := topS 50
theorem sc_u_law_is_number : FnScope ["value"] ["value"] (defScope s_u_law_is_number) := ⟨rfl, rfl, rfl, by decide +kernel, rfl, by decide +kernel, by decide +kernel⟩
abbrev s_u_law_fits : Stmt := topS 51
theorem sc_u_law_fits : FnScope ["value", "item"] ["value"] (defScope s_u_law_fits) := ⟨rfl, rfl, rfl, by decide +kernel, rfl, by decide +kernel, by decide +kernel⟩
abbrev s_u_law_right : Stmt := topS 52
theorem sc_u_law_right : FnScope ["which", "found", "data", "value"] ["which", "found", "data"] (defScope s_u_law_right) := ⟨rfl, rfl, rfl, by decide +kernel, rfl, by decide +kernel, by decide +kernel⟩
abbrev s_law : Stmt := topS 53
theorem sc_law : FnScope ["script", "k", "cell", "value", "found", "form", "near", "which", "pair", "bad"] ["script"] (defScope s_law) := ⟨rfl, rfl, rfl, by decide +kernel, rfl, by decide +kernel, by decide +kernel⟩
def errs : List Str := ["CurveError", "OutOfRange", "Malformed"]
def ancE : List (Str × List Str) := [("CurveError", ["CurveError"]), ("OutOfRange", ["OutOfRange", "CurveError"]), ("Malformed", ["Malformed", "CurveError"])]
def subE (c d : Str) : Bool := match ancE.lookup c with | some l => decide (d ∈ l) | none => false
def fileS : Str := PySem.Challenge.pw_curveseal_k31_trees_and_pairs.main.file
/-! ### the head -/
def dfs : List He.DefD := [⟨("is_whole", none), "is_whole", "is_whole", defArgs s_is_whole, defBody s_is_whole, defScope s_is_whole, [], []⟩, ⟨("to_little", none), "to_little", "to_little", defArgs s_to_little, defBody s_to_little, defScope s_to_little, [], []⟩, ⟨("to_big", none), "to_big", "to_big", defArgs s_to_big, defBody s_to_big, defScope s_to_big, [], []⟩, ⟨("from_big", none), "from_big", "from_big", defArgs s_from_big, defBody s_from_big, defScope s_from_big, [], []⟩, ⟨("is_bytes", none), "is_bytes", "is_bytes", defArgs s_is_bytes, defBody s_is_bytes, defScope s_is_bytes, [], []⟩, ⟨("write_length", none), "write_length", "write_length", defArgs s_write_length, defBody s_write_length, defScope s_write_length, [], []⟩, ⟨("read_length", none), "read_length", "read_length", defArgs s_read_length, defBody s_read_length, defScope s_read_length, [], []⟩, ⟨("write_number", none), "write_number", "write_number", defArgs s_write_number, defBody s_write_number, defScope s_write_number, [], []⟩, ⟨("_number_content", none), "_number_content", "_number_content", defArgs s_u_number_content, defBody s_u_number_content, defScope s_u_number_content, [], []⟩, ⟨("_part", none), "_part", "_part", defArgs s_u_part, defBody s_u_part, defScope s_u_part, [], []⟩, ⟨("write_pair", none), "write_pair", "write_pair", defArgs s_write_pair, defBody s_write_pair, defScope s_write_pair, [], []⟩, ⟨("read_pair", none), "read_pair", "read_pair", defArgs s_read_pair, defBody s_read_pair, defScope s_read_pair, [], []⟩, ⟨("_only_part", none), "_only_part", "_only_part", defArgs s_u_only_part, defBody s_u_only_part, defScope s_u_only_part, [], []⟩, ⟨("_split_parts", none), "_split_parts", "_split_parts", defArgs s_u_split_parts, defBody s_u_split_parts, defScope s_u_split_parts, [], []⟩, ⟨("_number", none), "_number", "_number", defArgs s_u_number, defBody s_u_number, defScope s_u_number, [], []⟩, ⟨("write_tree", none), "write_tree", "write_tree", defArgs s_write_tree, defBody s_write_tree, defScope s_write_tree, [], []⟩, ⟨("_levels", none), "_levels", "_levels", defArgs s_u_levels, defBody s_u_levels, defScope s_u_levels, [], []⟩, ⟨("_part_count", none), "_part_count", "_part_count", defArgs s_u_part_count, defBody s_u_part_count, defScope s_u_part_count, [], []⟩, ⟨("_tree_part", none), "_tree_part", "_tree_part", defArgs s_u_tree_part, defBody s_u_tree_part, defScope s_u_tree_part, [], []⟩, ⟨("read_tree", none), "read_tree", "read_tree", defArgs s_read_tree, defBody s_read_tree, defScope s_read_tree, [], []⟩, ⟨("_tree_value", none), "_tree_value", "_tree_value", defArgs s_u_tree_value, defBody s_u_tree_value, defScope s_u_tree_value, [], []⟩, ⟨("_law_cell", none), "_law_cell", "_law_cell", defArgs s_u_law_cell, defBody s_u_law_cell, defScope s_u_law_cell, [], []⟩, ⟨("_law_twice", none), "_law_twice", "_law_twice", defArgs s_u_law_twice, defBody s_u_law_twice, defScope s_u_law_twice, [], []⟩, ⟨("_law_integer", none), "_law_integer", "_law_integer", defArgs s_u_law_integer, defBody s_u_law_integer, defScope s_u_law_integer, [], []⟩, ⟨("_law_is_list", none), "_law_is_list", "_law_is_list", defArgs s_u_law_is_list, defBody s_u_law_is_list, defScope s_u_law_is_list, [], []⟩, ⟨("_law_length", none), "_law_length", "_law_length", defArgs s_u_law_length, defBody s_u_law_length, defScope s_u_law_length, [], []⟩, ⟨("_law_form", none), "_law_form", "_law_form", defArgs s_u_law_form, defBody s_u_law_form, defScope s_u_law_form, [], []⟩, ⟨("_law_tree", none), "_law_tree", "_law_tree", defArgs s_u_law_tree, defBody s_u_law_tree, defScope s_u_law_tree, [], []⟩, ⟨("_law_value", none), "_law_value", "_law_value", defArgs s_u_law_value, defBody s_u_law_value, defScope s_u_law_value, [], []⟩, ⟨("_law_deep", none), "_law_deep", "_law_deep", defArgs s_u_law_deep, defBody s_u_law_deep, defScope s_u_law_deep, [], []⟩, ⟨("_law_parts", none), "_law_parts", "_law_parts", defArgs s_u_law_parts, defBody s_u_law_parts, defScope s_u_law_parts, [], []⟩, ⟨("_law_call", none), "_law_call", "_law_call", defArgs s_u_law_call, defBody s_u_law_call, defScope s_u_law_call, [], []⟩, ⟨("_law_told", none), "_law_told", "_law_told", defArgs s_u_law_told, defBody s_u_law_told, defScope s_u_law_told, [], []⟩, ⟨("_law_wide", none), "_law_wide", "_law_wide", defArgs s_u_law_wide, defBody s_u_law_wide, defScope s_u_law_wide, [], []⟩, ⟨("_law_near", none), "_law_near", "_law_near", defArgs s_u_law_near, defBody s_u_law_near, defScope s_u_law_near, [], []⟩, ⟨("_law_is_number", none), "_law_is_number", "_law_is_number", defArgs s_u_law_is_number, defBody s_u_law_is_number, defScope s_u_law_is_number, [], []⟩, ⟨("_law_fits", none), "_law_fits", "_law_fits", defArgs s_u_law_fits, defBody s_u_law_fits, defScope s_u_law_fits, [], []⟩, ⟨("_law_right", none), "_law_right", "_law_right", defArgs s_u_law_right, defBody s_u_law_right, defScope s_u_law_right, [], []⟩, ⟨("law", none), "law", "law", defArgs s_law, defBody s_law, defScope s_law, [], []⟩]
def sus : List SupD := []
def tbs : List He.Tab := []
def fas : List He.Fa := [.glo "is_whole", .glo "to_little", .glo "to_big", .glo "from_big", .glo "is_bytes", .glo "write_length", .glo "read_length", .glo "write_number", .glo "_number_content", .glo "_part", .glo "write_pair", .glo "read_pair", .glo "_only_part", .glo "_split_parts", .glo "_number", .glo "write_tree", .glo "_levels", .glo "_part_count", .glo "_tree_part", .glo "read_tree", .glo "_tree_value", .glo "_law_cell", .glo "_law_twice", .glo "_law_integer", .glo "_law_is_list", .glo "_law_length", .glo "_law_form", .glo "_law_tree", .glo "_law_value", .glo "_law_deep", .glo "_law_parts", .glo "_law_call", .glo "_law_told", .glo "_law_wide", .glo "_law_near", .glo "_law_is_number", .glo "_law_fits", .glo "_law_right", .glo "law", .glo "CurveError", .glo "OutOfRange", .glo "Malformed", .exc "Malformed", .exc "OutOfRange", .free "abs", .free "all", .free "bool", .free "int", .free "isinstance", .free "len", .free "list", .free "max", .free "range", .free "sum", .free "tuple", .free "zip", .int "LONGEST_CONTENT" 65535, .int "LONGEST_NUMBER" 66, .int "MOST_BITS" 520, .int "MOST_LEVELS" 8, .int "MOST_PARTS" 64, .int "NUMBER_TAG" 2, .int "SEQUENCE_TAG" 48, .exm "CurveError" "CurveError" true, .exm "CurveError" "OutOfRange" false, .exm "CurveError" "Malformed" false, .exm "OutOfRange" "CurveError" true, .exm "OutOfRange" "OutOfRange" true, .exm "OutOfRange" "Malformed" false, .exm "Malformed" "CurveError" true, .exm "Malformed" "OutOfRange" false, .exm "Malformed" "Malformed" true]
def cons_ : List (Str × D) := []
def exB (K : PySem.W.Frag) : Bool := (clsB K errs subE && conB K cons_)
abbrev Rw : PySem.W.OpenRow := PySem.W.OpenLaw.row PySem.Challenge.rw_curveseal_k31_trees_and_pairs
def ads : List Addr := ([3, 6, 4, 24, 37, 49, 58, 63, 70, 77, 82, 89, 96, 103, 110, 117, 124, 129, 136, 143, 150, 157, 162, 167, 172, 179, 184, 191, 198, 205, 212, 219, 226, 233, 240, 247, 252, 257, 264, 271] : List Addr) ++ ([278, 285, 292, 297, 304, 311, 0, 23, 36, 48, 57, 62, 69, 76, 81, 88, 95, 102, 109, 116, 123, 128, 135, 142, 149, 156, 161, 166, 171, 178, 183, 190, 197, 204, 211, 218, 225, 232, 239, 246] : List Addr) ++ ([251, 256, 263, 270, 277, 284, 291, 296, 303, 310, 22, 25, 35, 47, 52, 53, 54, 55, 56, 59, 60, 61, 64, 65, 66, 67, 68, 71, 72, 73, 74, 75, 78, 79, 80, 83, 84, 85, 86, 87] : List Addr) ++ ([90, 91, 92, 93, 94, 97, 98, 99, 100, 101, 104, 105, 106, 107, 108, 111, 112, 113, 114, 115, 118, 119, 120, 121, 122, 125, 126, 127, 130, 131, 132, 133, 134, 137, 138, 139, 140, 141, 144, 145] : List Addr) ++ ([146, 147, 148, 151, 152, 153, 154, 155, 158, 159, 160, 163, 164, 165, 168, 169, 170, 173, 174, 175, 176, 177, 180, 181, 182, 185, 186, 187, 188, 189, 192, 193, 194, 195, 196, 199, 200, 201, 202, 203] : List Addr) ++ ([206, 207, 208, 209, 210, 213, 214, 215, 216, 217, 220, 221, 222, 223, 224, 227, 228, 229, 230, 231, 234, 235, 236, 237, 238, 241, 242, 243, 244, 245, 248, 249, 250, 253, 254, 255, 258, 259, 260, 261] : List Addr) ++ ([262, 265, 266, 267, 268, 269, 272, 273, 274, 275, 276, 279, 280, 281, 282, 283, 286, 287, 288, 289, 290, 293, 294, 295, 298, 299, 300, 301, 302, 305, 306, 307, 308, 309, 2] : List Addr)
abbrev hk : PySem.W.Hook := hookZ ads fas dfs tbs sus exB
def ob (s : PySem.W.SharedT) : AlY := obsZ ads fas dfs tbs sus exB (HandSHeadRun.getT s)
theorem ob_eq (s : PySem.W.SharedT) : ob s = hk.obs s.abs := obsZ_eq (HandSHeadRun.getT_eq s)
/-! ### pieces -/
section
open PySem PySem.W PySem.Calls PyProof.Rows HandSHeadRun
def o0 (w : World) : Obj := oD [dE w "__name__" 1 (vS "builtins" 160), dE w "__doc__" 2 (vB "builtins.__doc__:str#opaque"), dE w "__package__" 3 (vB "builtins.__package__:str#opaque"), dE w "__loader__" 4 (vB "builtins.__loader__:shared#opaque"), dE w "__spec__" 5 (vB "builtins.__spec__#opaque"), dE w "__build_class__" 6 (vB "__build_class__"), dE w "__\x69mport__" 7 (vB "__\x69mport__"), dE w "abs" 8 (vB "abs"), dE w "all" 9 (vB "all"), dE w "any" 10 (vB "any"), dE w "ascii" 11 (vB "ascii"), dE w "bin" 12 (vB "bin"), dE w "breakpoint" 13 (vB "breakpoint"), dE w "callable" 14 (vB "callable"), dE w "chr" 15 (vB "chr"), dE w "compile" 16 (vB "compile"), dE w "delattr" 17 (vB "delattr"), dE w "dir" 18 (vB "dir"), dE w "divmod" 19 (vB "divmod"), dE w "eval" 20 (vB "eval"), dE w "exec" 21 (vB "exec"), dE w "format" 22 (vB "format"), dE w "getattr" 23 (vB "getattr"), dE w "globals" 24 (vB "globals"), dE w "hasattr" 25 (vB "hasattr"), dE w "hash" 26 (vB "hash"), dE w "hex" 27 (vB "hex"), dE w "id" 28 (vB "id"), dE w "input" 29 (vB "input"), dE w "isinstance" 30 (vB "isinstance"), dE w "issubclass" 31 (vB "issubclass"), dE w "iter" 32 (vB "iter"), dE w "aiter" 33 (vB "aiter"), dE w "len" 34 (vB "len"), dE w "locals" 35 (vB "locals"), dE w "max" 36 (vB "max"), dE w "min" 37 (vB "min"), dE w "next" 38 (vB "next"), dE w "anext" 39 (vB "anext"), dE w "oct" 40 (vB "oct"), dE w "ord" 41 (vB "ord"), dE w "pow" 42 (vB "pow"), dE w "print" 43 (vB "print"), dE w "repr" 44 (vB "repr"), dE w "round" 45 (vB "round"), dE w "setattr" 46 (vB "setattr"), dE w "sorted" 47 (vB "sorted"), dE w "sum" 48 (vB "sum"), dE w "vars" 49 (vB "vars"), dE w "None" 50 vN, dE w "Ellipsis" 51 .ellipsis, dE w "NotImplemented" 52 .notImplemented, dE w "False" 53 (.bool false), dE w "True" 54 (.bool true), dE w "bool" 55 (vT "bool"), dE w "memoryview" 56 (vT "memoryview"), dE w "bytearray" 57 (vT "bytearray"), dE w "bytes" 58 (vT "bytes"), dE w "classmethod" 59 (vT "classmethod"), dE w "complex" 60 (vT "complex"), dE w "dict" 61 (vT "dict"), dE w "enumerate" 62 (vT "enumerate"), dE w "filter" 63 (vT "filter"), dE w "float" 64 (vT "float"), dE w "frozenset" 65 (vT "frozenset"), dE w "property" 66 (vT "property"), dE w "int" 67 (vT "int"), dE w "list" 68 (vT "list"), dE w "map" 69 (vT "map"), dE w "object" 70 (vT "object"), dE w "range" 71 (vT "range"), dE w "reversed" 72 (vT "reversed"), dE w "set" 73 (vT "set"), dE w "slice" 74 (vT "slice"), dE w "staticmethod" 75 (vT "staticmethod"), dE w "str" 76 (vT "str"), dE w "super" 77 (vT "super"), dE w "tuple" 78 (vT "tuple"), dE w "type" 79 (vT "type"), dE w "zip" 80 (vT "zip"), dE w "__debug__" 81 (.bool true), dE w "BaseException" 82 (vT "BaseException"), dE w "BaseExceptionGroup" 83 (vT "BaseExceptionGroup"), dE w "Exception" 84 (vT "Exception"), dE w "GeneratorExit" 85 (vT "GeneratorExit"), dE w "KeyboardInterrupt" 86 (vT "KeyboardInterrupt"), dE w "SystemExit" 87 (vT "SystemExit"), dE w "ArithmeticError" 88 (vT "ArithmeticError"), dE w "AssertionError" 89 (vT "AssertionError"), dE w "AttributeError" 90 (vT "AttributeError"), dE w "BufferError" 91 (vT "BufferError"), dE w "EOFError" 92 (vT "EOFError"), dE w "ImportError" 93 (vT "ImportError"), dE w "LookupError" 94 (vT "LookupError"), dE w "MemoryError" 95 (vT "MemoryError"), dE w "NameError" 96 (vT "NameError"), dE w "OSError" 97 (vT "OSError"), dE w "ReferenceError" 98 (vT "ReferenceError"), dE w "RuntimeError" 99 (vT "RuntimeError"), dE w "StopAsyncIteration" 100 (vT "StopAsyncIteration"), dE w "StopIteration" 101 (vT "StopIteration"), dE w "SyntaxError" 102 (vT "SyntaxError"), dE w "SystemError" 103 (vT "SystemError"), dE w "TypeError" 104 (vT "TypeError"), dE w "ValueError" 105 (vT "ValueError"), dE w "Warning" 106 (vT "Warning"), dE w "FloatingPointError" 107 (vT "FloatingPointError"), dE w "OverflowError" 108 (vT "OverflowError"), dE w "ZeroDivisionError" 109 (vT "ZeroDivisionError"), dE w "BytesWarning" 110 (vT "BytesWarning"), dE w "DeprecationWarning" 111 (vT "DeprecationWarning"), dE w "EncodingWarning" 112 (vT "EncodingWarning"), dE w "FutureWarning" 113 (vT "FutureWarning"), dE w "ImportWarning" 114 (vT "ImportWarning"), dE w "PendingDeprecationWarning" 115 (vT "PendingDeprecationWarning"), dE w "ResourceWarning" 116 (vT "ResourceWarning"), dE w "RuntimeWarning" 117 (vT "RuntimeWarning"), dE w "SyntaxWarning" 118 (vT "SyntaxWarning"), dE w "UnicodeWarning" 119 (vT "UnicodeWarning"), dE w "UserWarning" 120 (vT "UserWarning"), dE w "BlockingIOError" 121 (vT "BlockingIOError"), dE w "ChildProcessError" 122 (vT "ChildProcessError"), dE w "ConnectionError" 123 (vT "ConnectionError"), dE w "FileExistsError" 124 (vT "FileExistsError"), dE w "FileNotFoundError" 125 (vT "FileNotFoundError"), dE w "InterruptedError" 126 (vT "InterruptedError"), dE w "IsADirectoryError" 127 (vT "IsADirectoryError"), dE w "NotADirectoryError" 128 (vT "NotADirectoryError"), dE w "PermissionError" 129 (vT "PermissionError"), dE w "ProcessLookupError" 130 (vT "ProcessLookupError"), dE w "TimeoutError" 131 (vT "TimeoutError"), dE w "IndentationError" 132 (vT "IndentationError"), dE w "_IncompleteInputError" 133 (vT "_IncompleteInputError"), dE w "IndexError" 134 (vT "IndexError"), dE w "KeyError" 135 (vT "KeyError"), dE w "ModuleNotFoundError" 136 (vT "ModuleNotFoundError"), dE w "NotImplementedError" 137 (vT "NotImplementedError"), dE w "PythonFinalizationError" 138 (vT "PythonFinalizationError"), dE w "RecursionError" 139 (vT "RecursionError"), dE w "UnboundLocalError" 140 (vT "UnboundLocalError"), dE w "UnicodeError" 141 (vT "UnicodeError"), dE w "BrokenPipeError" 142 (vT "BrokenPipeError"), dE w "ConnectionAbortedError" 143 (vT "ConnectionAbortedError"), dE w "ConnectionRefusedError" 144 (vT "ConnectionRefusedError"), dE w "ConnectionResetError" 145 (vT "ConnectionResetError"), dE w "TabError" 146 (vT "TabError"), dE w "UnicodeDecodeError" 147 (vT "UnicodeDecodeError"), dE w "UnicodeEncodeError" 148 (vT "UnicodeEncodeError"), dE w "UnicodeTranslateError" 149 (vT "UnicodeTranslateError"), dE w "ExceptionGroup" 150 (vT "ExceptionGroup"), dE w "EnvironmentError" 151 (vT "OSError"), dE w "IOError" 152 (vT "OSError"), dE w "open" 153 (vB "open"), dE w "quit" 154 (vB "builtins.quit#opaque"), dE w "exit" 155 (vB "builtins.exit#opaque"), dE w "copyright" 156 (vB "builtins.copyright#opaque"), dE w "credits" 157 (vB "builtins.credits#opaque"), dE w "license" 158 (vB "builtins.license#opaque"), dE w "help" 159 (vB "builtins.help#opaque")] 159
def o1 (w : World) : Obj := oD [dE w "builtins" 162 (vR 4), dE w "__main__" 163 (vR 5)] 2
def o2 (w : World) : Obj := ⟨vN, none, .dict [].toArray 0, [].toArray⟩
def o3 (w : World) : Obj := oD [dE w "__name__" 165 (vS "__main__" 164), dE w "__doc__" 166 vN, dE w "__package__" 167 vN, dE w "__loader__" 168 (vB "__main__.__loader__#opaque"), dE w "__spec__" 169 vN, dE w "__annotations__" 170 (vR 6), dE w "__builtins__" 171 (vR 4), dE w "__file__" 173 (vS "/claim/cut.py" 172), dE w "__cached__" 174 vN] 9
def o4 : Obj := ⟨(vT "module"), (some 0), .plain, [].toArray⟩
def o5 : Obj := ⟨(vT "module"), (some 3), .plain, [].toArray⟩
def o6 (w : World) : Obj := oD [] 0
def o7 : Obj := oT []
def o8 : Obj := oF vN []
def o9 : Obj := oF (vT "code") [(vS "<module>" 176), (vS "<module>" 177), (vS "/claim/cut.py" 178), (vI (1) 0), (vI (0) 0), (vI (0) 0), (vI (0) 0), (vI (0) 0), (vR 7), (.bool false), (vI (175) 0), (vR 8), vN, vN, vN, vN, (vI (179) 0), (vI (1) 0), (vS "/claim/cut.py" 180)]
def o10 : Obj := oP (vT "frame") [(some (vR 9)), (some (vR 3)), (some (vR 3)), none, (some (vS "__main__" 164)), none, (some (vR 0))]
def o11 : Obj := oT []
def o12 : Obj := oF vN []
def o13 : Obj := oF (vT "code") [(vS "<module>" 182), (vS "<module>" 183), (vS "/claim/cut.py" 184), (vI (1) 0), (vI (0) 0), (vI (0) 0), (vI (0) 0), (vI (0) 0), (vR 11), (.bool false), (vI (181) 0), (vR 12), vN, vN, vN, vN, (vI (185) 0), (vI (1) 0), (vS "/claim/cut.py" 186)]
def o14 : Obj := oP (vT "frame") [(some (vR 13)), (some (vR 3)), (some (vR 3)), none, (some (vS "__main__" 164)), none, (some (vR 0))]
def o3_1 (w : World) : Obj := oD [dE w "__name__" 165 (vS "law_curveseal_k31_trees_and_pairs" 416), dE w "__doc__" 166 vN, dE w "__package__" 167 vN, dE w "__loader__" 168 (vB "__main__.__loader__#opaque"), dE w "__spec__" 169 vN, dE w "__annotations__" 170 (vR 6), dE w "__builtins__" 171 (vR 4), dE w "__file__" 173 (vS "/claim/cut.py" 172), dE w "__cached__" 174 vN, dE w "CurveError" 206 (vR 24), dE w "OutOfRange" 222 (vR 37), dE w "Malformed" 238 (vR 49), dE w "is_whole" 247 (vR 58), dE w "to_little" 253 (vR 63), dE w "to_big" 261 (vR 70), dE w "from_big" 270 (vR 77), dE w "is_bytes" 276 (vR 82), dE w "NUMBER_TAG" 280 (vI (2) 279), dE w "SEQUENCE_TAG" 282 (vI (48) 281), dE w "LONGEST_CONTENT" 284 (vI (65535) 283), dE w "MOST_BITS" 286 (vI (520) 285), dE w "LONGEST_NUMBER" 288 (vI (66) 287), dE w "MOST_LEVELS" 290 (vI (8) 289), dE w "MOST_PARTS" 292 (vI (64) 291), dE w "write_length" 299 (vR 89), dE w "read_length" 310 (vR 96), dE w "write_number" 317 (vR 103), dE w "_number_content" 324 (vR 110), dE w "_part" 332 (vR 117), dE w "write_pair" 340 (vR 124), dE w "read_pair" 346 (vR 129), dE w "_only_part" 354 (vR 136), dE w "_split_parts" 366 (vR 143), dE w "_number" 374 (vR 150), dE w "write_tree" 381 (vR 157), dE w "_levels" 387 (vR 162), dE w "_part_count" 393 (vR 167), dE w "_tree_part" 399 (vR 172), dE w "read_tree" 409 (vR 179), dE w "_tree_value" 415 (vR 184), dE w "_law_cell" 425 (vR 191), dE w "_law_twice" 434 (vR 198), dE w "_law_bytes" 446 (vR 205), dE w "_law_integer" 453 (vR 212), dE w "_law_is_list" 463 (vR 219), dE w "_law_length" 470 (vR 226), dE w "_law_form" 480 (vR 233), dE w "_law_tree" 489 (vR 240), dE w "_law_value" 503 (vR 247), dE w "_law_deep" 509 (vR 252), dE w "_law_parts" 515 (vR 257), dE w "_law_call" 523 (vR 264), dE w "_law_told" 531 (vR 271), dE w "_law_wide" 540 (vR 278), dE w "_law_near" 550 (vR 285), dE w "_law_is_number" 557 (vR 292), dE w "_law_fits" 563 (vR 297), dE w "_law_right" 573 (vR 304), dE w "law" 589 (vR 311)] 59
def o12_1 : Obj := oF vN [(vI (2) 0), (vI (0) 0), (vR 20), (vI (4) 0), (vI (0) 0), (vR 33), (vI (6) 0), (vI (0) 0), (vR 45), (vI (9) 0), (vI (0) 0), (vR 57), (vI (11) 0), (vI (0) 0), (vR 62), (vI (15) 0), (vI (0) 0), (vR 69), (vI (17) 0), (vI (0) 0), (vR 76), (vI (22) 0), (vI (0) 0), (vR 81), (vI (32) 0), (vI (0) 0), (vR 88), (vI (40) 0), (vI (0) 0), (vR 95), (vI (52) 0), (vI (0) 0), (vR 102), (vI (56) 0), (vI (0) 0), (vR 109), (vI (58) 0), (vI (0) 0), (vR 116), (vI (60) 0), (vI (0) 0), (vR 123), (vI (62) 0), (vI (0) 0), (vR 128), (vI (68) 0), (vI (0) 0), (vR 135), (vI (75) 0), (vI (0) 0), (vR 142), (vI (86) 0), (vI (0) 0), (vR 149), (vI (93) 0), (vI (0) 0), (vR 156), (vI (97) 0), (vI (0) 0), (vR 161), (vI (101) 0), (vI (0) 0), (vR 166), (vI (105) 0), (vI (0) 0), (vR 171), (vI (109) 0), (vI (0) 0), (vR 178), (vI (115) 0), (vI (0) 0), (vR 183), (vI (124) 0), (vI (0) 0), (vR 190), (vI (128) 0), (vI (0) 0), (vR 197), (vI (133) 0), (vI (0) 0), (vR 204), (vI (144) 0), (vI (0) 0), (vR 211), (vI (146) 0), (vI (0) 0), (vR 218), (vI (153) 0), (vI (0) 0), (vR 225), (vI (159) 0), (vI (0) 0), (vR 232), (vI (170) 0), (vI (0) 0), (vR 239), (vI (177) 0), (vI (0) 0), (vR 246), (vI (186) 0), (vI (0) 0), (vR 251), (vI (190) 0), (vI (0) 0), (vR 256), (vI (194) 0), (vI (0) 0), (vR 263), (vI (202) 0), (vI (0) 0), (vR 270), (vI (211) 0), (vI (0) 0), (vR 277), (vI (216) 0), (vI (0) 0), (vR 284), (vI (228) 0), (vI (0) 0), (vR 291), (vI (230) 0), (vI (0) 0), (vR 296), (vI (234) 0), (vI (0) 0), (vR 303), (vI (241) 0), (vI (0) 0), (vR 310)]
def o15 : Obj := oT [(vT "ValueError")]
def o16 : Obj := oF (vT "builtin_function_or_method") [(vB "type.__prepare__"), (vT "type")]
def o17 (w : World) : Obj := oD [dE w "__module__" 196 (vS "curveseal.errors" 187), dE w "__qualname__" 198 (vS "CurveError" 197), dE w "__firstlineno__" 200 (vI (2) 199), dE w "__static_attributes__" 201 (vR 22)] 4
def o18 : Obj := oT []
def o19 : Obj := oF vN []
def o20 : Obj := oF (vT "code") [(vS "CurveError" 191), (vS "CurveError" 192), (vS "/claim/cut.py" 193), (vI (2) 0), (vI (0) 0), (vI (0) 0), (vI (0) 0), (vI (0) 0), (vR 18), (.bool false), (vI (181) 0), (vR 19), vN, vN, vN, vN, (vI (194) 0), (vI (2) 0), (vS "/claim/cut.py" 195)]
def o21 : Obj := oP (vT "frame") [(some (vR 20)), (some (vR 3)), (some (vR 17)), none, (some (vS "curveseal.errors" 187)), none, (some (vR 0))]
def o22 : Obj := oT []
def o23 (w : World) : Obj := oD [dE w "__module__" 196 (vS "curveseal.errors" 187), dE w "__firstlineno__" 200 (vI (2) 199), dE w "__static_attributes__" 201 (vR 22), dE w "__weakref__" 203 (vR 25), dE w "__doc__" 204 vN] 3
def o24 : Obj := ⟨(vT "type"), none, .cls ⟨.ofString "CurveError", [(vT "ValueError")], [(vR 24), (vT "ValueError"), (vT "Exception"), (vT "BaseException"), (vT "object")], 23, .ofString "CurveError", true, [], [(vR 37), (vR 49)], false, none, false⟩, [(some (vR 15)), none, (some (vS "CurveError" 189)), (some (vS "CurveError" 197)), (some (vB "ValueError.__new__")), (some (.bool true))].toArray⟩
def o25 : Obj := oF (vT "getset_descriptor") [(vS "__weakref__" 202), (vR 24), (vB "ExceptionGroup.__weakref__"), vN]
def o26 : Obj := oF (vT "super") [(vR 24), (vR 24), (vR 24)]
def o27 : Obj := oF (vT "builtin_function_or_method") [(vB "object.__init_subclass__"), (vR 24)]
def o28 : Obj := oT [(vR 24)]
def o29 : Obj := oF (vT "builtin_function_or_method") [(vB "type.__prepare__"), (vT "type")]
def o30 (w : World) : Obj := oD [dE w "__module__" 214 (vS "curveseal.errors" 187), dE w "__qualname__" 216 (vS "OutOfRange" 215), dE w "__firstlineno__" 218 (vI (4) 217), dE w "__static_attributes__" 219 (vR 35)] 4
def o31 : Obj := oT []
def o32 : Obj := oF vN []
def o33 : Obj := oF (vT "code") [(vS "OutOfRange" 209), (vS "OutOfRange" 210), (vS "/claim/cut.py" 211), (vI (4) 0), (vI (0) 0), (vI (0) 0), (vI (0) 0), (vI (0) 0), (vR 31), (.bool false), (vI (181) 0), (vR 32), vN, vN, vN, vN, (vI (212) 0), (vI (4) 0), (vS "/claim/cut.py" 213)]
def o34 : Obj := oP (vT "frame") [(some (vR 33)), (some (vR 3)), (some (vR 30)), none, (some (vS "curveseal.errors" 187)), none, (some (vR 0))]
def o35 : Obj := oT []
def o36 (w : World) : Obj := oD [dE w "__module__" 214 (vS "curveseal.errors" 187), dE w "__firstlineno__" 218 (vI (4) 217), dE w "__static_attributes__" 219 (vR 35), dE w "__doc__" 220 vN] 2
def o37 : Obj := oC (vT "type") none "OutOfRange" [(vR 24)] [(vR 37), (vR 24), (vT "ValueError"), (vT "Exception"), (vT "BaseException"), (vT "object")] 36 "OutOfRange" [(some (vR 28)), none, (some (vS "OutOfRange" 207)), (some (vS "OutOfRange" 215)), (some (vB "ValueError.__new__")), (some (.bool true))]
def o38 : Obj := oF (vT "super") [(vR 37), (vR 37), (vR 37)]
def o39 : Obj := oF (vT "builtin_function_or_method") [(vB "object.__init_subclass__"), (vR 37)]
def o40 : Obj := oT [(vR 24)]
def o41 : Obj := oF (vT "builtin_function_or_method") [(vB "type.__prepare__"), (vT "type")]
def o42 (w : World) : Obj := oD [dE w "__module__" 230 (vS "curveseal.errors" 187), dE w "__qualname__" 232 (vS "Malformed" 231), dE w "__firstlineno__" 234 (vI (6) 233), dE w "__static_attributes__" 235 (vR 47)] 4
def o43 : Obj := oT []
def o44 : Obj := oF vN []
def o45 : Obj := oF (vT "code") [(vS "Malformed" 225), (vS "Malformed" 226), (vS "/claim/cut.py" 227), (vI (6) 0), (vI (0) 0), (vI (0) 0), (vI (0) 0), (vI (0) 0), (vR 43), (.bool false), (vI (181) 0), (vR 44), vN, vN, vN, vN, (vI (228) 0), (vI (6) 0), (vS "/claim/cut.py" 229)]
def o46 : Obj := oP (vT "frame") [(some (vR 45)), (some (vR 3)), (some (vR 42)), none, (some (vS "curveseal.errors" 187)), none, (some (vR 0))]
def o47 : Obj := oT []
def o48 (w : World) : Obj := oD [dE w "__module__" 230 (vS "curveseal.errors" 187), dE w "__firstlineno__" 234 (vI (6) 233), dE w "__static_attributes__" 235 (vR 47), dE w "__doc__" 236 vN] 2
def o49 : Obj := oC (vT "type") none "Malformed" [(vR 24)] [(vR 49), (vR 24), (vT "ValueError"), (vT "Exception"), (vT "BaseException"), (vT "object")] 48 "Malformed" [(some (vR 40)), none, (some (vS "Malformed" 223)), (some (vS "Malformed" 231)), (some (vB "ValueError.__new__")), (some (.bool true))]
def o50 : Obj := oF (vT "super") [(vR 49), (vR 49), (vR 49)]
def o51 : Obj := oF (vT "builtin_function_or_method") [(vB "object.__init_subclass__"), (vR 49)]
def o52 : Obj := oT []
def o53 : Obj := oF vN []
def o54 : Obj := oT [(vS "value" 244)]
def o55 : Obj := oT []
def o56 : Obj := oU vN "is_whole" "is_whole" (topS 5) 0 [] vN vN vN none vN vN 0 []
def o57 : Obj := oF (vT "code") [(vS "is_whole" 241), (vS "is_whole" 242), (vS "/claim/cut.py" 243), (vI (9) 0), (vI (1) 0), (vI (0) 0), (vI (0) 0), (vI (3) 0), (vR 52), (.bool true), (vI (181) 0), (vR 53), vN, (vR 54), (vR 55), (vR 56), (vI (245) 0), (vI (9) 0), (vS "/claim/cut.py" 246)]
def o58 : Obj := oU (vT "function") "is_whole" "is_whole" (topS 5) 3 [] vN vN (vS "curveseal.octets" 239) none (vR 57) vN 0 []
def o59 : Obj := oT []
def o60 : Obj := oF vN []
def o61 : Obj := oU vN "to_little" "to_little" (topS 6) 0 [] vN vN vN none vN vN 0 []
def o62 : Obj := oF (vT "code") [(vS "to_little" 248), (vS "to_little" 249), (vS "/claim/cut.py" 250), (vI (11) 0), (vI (2) 0), (vI (0) 0), (vI (0) 0), (vI (3) 0), (vR 59), (.bool true), (vI (181) 0), (vR 60), vN, vN, vN, (vR 61), (vI (251) 0), (vI (11) 0), (vS "/claim/cut.py" 252)]
def o63 : Obj := oU (vT "function") "to_little" "to_little" (topS 6) 3 [] vN vN (vS "curveseal.octets" 239) none (vR 62) vN 0 []
def o64 : Obj := oT []
def o65 : Obj := oF vN []
def o66 : Obj := oT [(vS "number" 257), (vS "size" 258)]
def o67 : Obj := oT []
def o68 : Obj := oU vN "to_big" "to_big" (topS 7) 0 [] vN vN vN none vN vN 0 []
def o69 : Obj := oF (vT "code") [(vS "to_big" 254), (vS "to_big" 255), (vS "/claim/cut.py" 256), (vI (15) 0), (vI (2) 0), (vI (0) 0), (vI (0) 0), (vI (3) 0), (vR 64), (.bool true), (vI (181) 0), (vR 65), vN, (vR 66), (vR 67), (vR 68), (vI (259) 0), (vI (15) 0), (vS "/claim/cut.py" 260)]
def o70 : Obj := oU (vT "function") "to_big" "to_big" (topS 7) 3 [] vN vN (vS "curveseal.octets" 239) none (vR 69) vN 0 []
def o71 : Obj := oT []
def o72 : Obj := oF vN []
def o73 : Obj := oT [(vS "data" 265), (vS "number" 266), (vS "byte" 267)]
def o74 : Obj := oT []
def o75 : Obj := oU vN "from_big" "from_big" (topS 8) 0 [] vN vN vN none vN vN 0 []
def o76 : Obj := oF (vT "code") [(vS "from_big" 262), (vS "from_big" 263), (vS "/claim/cut.py" 264), (vI (17) 0), (vI (1) 0), (vI (0) 0), (vI (0) 0), (vI (3) 0), (vR 71), (.bool true), (vI (181) 0), (vR 72), vN, (vR 73), (vR 74), (vR 75), (vI (268) 0), (vI (17) 0), (vS "/claim/cut.py" 269)]
def o77 : Obj := oU (vT "function") "from_big" "from_big" (topS 8) 3 [] vN vN (vS "curveseal.octets" 239) none (vR 76) vN 0 []
def o78 : Obj := oT []
def o79 : Obj := oF vN []
def o80 : Obj := oU vN "is_bytes" "is_bytes" (topS 9) 0 [] vN vN vN none vN vN 0 []
def o81 : Obj := oF (vT "code") [(vS "is_bytes" 271), (vS "is_bytes" 272), (vS "/claim/cut.py" 273), (vI (22) 0), (vI (1) 0), (vI (0) 0), (vI (0) 0), (vI (3) 0), (vR 78), (.bool true), (vI (181) 0), (vR 79), vN, vN, vN, (vR 80), (vI (274) 0), (vI (22) 0), (vS "/claim/cut.py" 275)]
def o82 : Obj := oU (vT "function") "is_bytes" "is_bytes" (topS 9) 3 [] vN vN (vS "curveseal.octets" 239) none (vR 81) vN 0 []
def o83 : Obj := oT []
def o84 : Obj := oF vN []
def o85 : Obj := oT [(vS "size" 296)]
def o86 : Obj := oT []
def o87 : Obj := oU vN "write_length" "write_length" (topS 18) 0 [] vN vN vN none vN vN 0 []
def o88 : Obj := oF (vT "code") [(vS "write_length" 293), (vS "write_length" 294), (vS "/claim/cut.py" 295), (vI (32) 0), (vI (1) 0), (vI (0) 0), (vI (0) 0), (vI (3) 0), (vR 83), (.bool true), (vI (181) 0), (vR 84), vN, (vR 85), (vR 86), (vR 87), (vI (297) 0), (vI (32) 0), (vS "/claim/cut.py" 298)]
def o89 : Obj := oU (vT "function") "write_length" "write_length" (topS 18) 3 [] vN vN (vS "curveseal.tagged" 277) none (vR 88) vN 0 []
def o90 : Obj := oT []
def o91 : Obj := oF vN []
def o92 : Obj := oT [(vS "data" 303), (vS "at" 304), (vS "first" 305), (vS "behind" 306), (vS "size" 307)]
def o93 : Obj := oT []
def o94 : Obj := oU vN "read_length" "read_length" (topS 19) 0 [] vN vN vN none vN vN 0 []
def o95 : Obj := oF (vT "code") [(vS "read_length" 300), (vS "read_length" 301), (vS "/claim/cut.py" 302), (vI (40) 0), (vI (2) 0), (vI (0) 0), (vI (0) 0), (vI (3) 0), (vR 90), (.bool true), (vI (181) 0), (vR 91), vN, (vR 92), (vR 93), (vR 94), (vI (308) 0), (vI (40) 0), (vS "/claim/cut.py" 309)]
def o96 : Obj := oU (vT "function") "read_length" "read_length" (topS 19) 3 [] vN vN (vS "curveseal.tagged" 277) none (vR 95) vN 0 []
def o97 : Obj := oT []
def o98 : Obj := oF vN []
def o99 : Obj := oT [(vS "number" 314)]
def o100 : Obj := oT []
def o101 : Obj := oU vN "write_number" "write_number" (topS 20) 0 [] vN vN vN none vN vN 0 []
def o102 : Obj := oF (vT "code") [(vS "write_number" 311), (vS "write_number" 312), (vS "/claim/cut.py" 313), (vI (52) 0), (vI (1) 0), (vI (0) 0), (vI (0) 0), (vI (3) 0), (vR 97), (.bool true), (vI (181) 0), (vR 98), vN, (vR 99), (vR 100), (vR 101), (vI (315) 0), (vI (52) 0), (vS "/claim/cut.py" 316)]
def o103 : Obj := oU (vT "function") "write_number" "write_number" (topS 20) 3 [] vN vN (vS "curveseal.tagged" 277) none (vR 102) vN 0 []
def o104 : Obj := oT []
def o105 : Obj := oF vN []
def o106 : Obj := oT [(vS "number" 321)]
def o107 : Obj := oT []
def o108 : Obj := oU vN "_number_content" "_number_content" (topS 21) 0 [] vN vN vN none vN vN 0 []
def o109 : Obj := oF (vT "code") [(vS "_number_content" 318), (vS "_number_content" 319), (vS "/claim/cut.py" 320), (vI (56) 0), (vI (1) 0), (vI (0) 0), (vI (0) 0), (vI (3) 0), (vR 104), (.bool true), (vI (181) 0), (vR 105), vN, (vR 106), (vR 107), (vR 108), (vI (322) 0), (vI (56) 0), (vS "/claim/cut.py" 323)]
def o110 : Obj := oU (vT "function") "_number_content" "_number_content" (topS 21) 3 [] vN vN (vS "curveseal.tagged" 277) none (vR 109) vN 0 []
def o111 : Obj := oT []
def o112 : Obj := oF vN []
def o113 : Obj := oT [(vS "tag" 328), (vS "content" 329)]
def o114 : Obj := oT []
def o115 : Obj := oU vN "_part" "_part" (topS 22) 0 [] vN vN vN none vN vN 0 []
def o116 : Obj := oF (vT "code") [(vS "_part" 325), (vS "_part" 326), (vS "/claim/cut.py" 327), (vI (58) 0), (vI (2) 0), (vI (0) 0), (vI (0) 0), (vI (3) 0), (vR 111), (.bool true), (vI (181) 0), (vR 112), vN, (vR 113), (vR 114), (vR 115), (vI (330) 0), (vI (58) 0), (vS "/claim/cut.py" 331)]
def o117 : Obj := oU (vT "function") "_part" "_part" (topS 22) 3 [] vN vN (vS "curveseal.tagged" 277) none (vR 116) vN 0 []
def o118 : Obj := oT []
def o119 : Obj := oF vN []
def o120 : Obj := oT [(vS "first" 336), (vS "second" 337)]
def o121 : Obj := oT []
def o122 : Obj := oU vN "write_pair" "write_pair" (topS 23) 0 [] vN vN vN none vN vN 0 []
def o123 : Obj := oF (vT "code") [(vS "write_pair" 333), (vS "write_pair" 334), (vS "/claim/cut.py" 335), (vI (60) 0), (vI (2) 0), (vI (0) 0), (vI (0) 0), (vI (3) 0), (vR 118), (.bool true), (vI (181) 0), (vR 119), vN, (vR 120), (vR 121), (vR 122), (vI (338) 0), (vI (60) 0), (vS "/claim/cut.py" 339)]
def o124 : Obj := oU (vT "function") "write_pair" "write_pair" (topS 23) 3 [] vN vN (vS "curveseal.tagged" 277) none (vR 123) vN 0 []
def o125 : Obj := oT []
def o126 : Obj := oF vN []
def o127 : Obj := oU vN "read_pair" "read_pair" (topS 24) 0 [] vN vN vN none vN vN 0 []
def o128 : Obj := oF (vT "code") [(vS "read_pair" 341), (vS "read_pair" 342), (vS "/claim/cut.py" 343), (vI (62) 0), (vI (1) 0), (vI (0) 0), (vI (0) 0), (vI (3) 0), (vR 125), (.bool true), (vI (181) 0), (vR 126), vN, vN, vN, (vR 127), (vI (344) 0), (vI (62) 0), (vS "/claim/cut.py" 345)]
def o129 : Obj := oU (vT "function") "read_pair" "read_pair" (topS 24) 3 [] vN vN (vS "curveseal.tagged" 277) none (vR 128) vN 0 []
def o130 : Obj := oT []
def o131 : Obj := oF vN []
def o132 : Obj := oT [(vS "data" 350), (vS "parts" 351)]
def o133 : Obj := oT []
def o134 : Obj := oU vN "_only_part" "_only_part" (topS 25) 0 [] vN vN vN none vN vN 0 []
def o135 : Obj := oF (vT "code") [(vS "_only_part" 347), (vS "_only_part" 348), (vS "/claim/cut.py" 349), (vI (68) 0), (vI (1) 0), (vI (0) 0), (vI (0) 0), (vI (3) 0), (vR 130), (.bool true), (vI (181) 0), (vR 131), vN, (vR 132), (vR 133), (vR 134), (vI (352) 0), (vI (68) 0), (vS "/claim/cut.py" 353)]
def o136 : Obj := oU (vT "function") "_only_part" "_only_part" (topS 25) 3 [] vN vN (vS "curveseal.tagged" 277) none (vR 135) vN 0 []
def o137 : Obj := oT []
def o138 : Obj := oF vN []
def o139 : Obj := oT [(vS "data" 358), (vS "parts" 359), (vS "at" 360), (vS "size" 361), (vS "start" 362), (vS "behind" 363)]
def o140 : Obj := oT []
def o141 : Obj := oU vN "_split_parts" "_split_parts" (topS 26) 0 [] vN vN vN none vN vN 0 []
def o142 : Obj := oF (vT "code") [(vS "_split_parts" 355), (vS "_split_parts" 356), (vS "/claim/cut.py" 357), (vI (75) 0), (vI (1) 0), (vI (0) 0), (vI (0) 0), (vI (3) 0), (vR 137), (.bool true), (vI (181) 0), (vR 138), vN, (vR 139), (vR 140), (vR 141), (vI (364) 0), (vI (75) 0), (vS "/claim/cut.py" 365)]
def o143 : Obj := oU (vT "function") "_split_parts" "_split_parts" (topS 26) 3 [] vN vN (vS "curveseal.tagged" 277) none (vR 142) vN 0 []
def o144 : Obj := oT []
def o145 : Obj := oF vN []
def o146 : Obj := oT [(vS "content" 370), (vS "number" 371)]
def o147 : Obj := oT []
def o148 : Obj := oU vN "_number" "_number" (topS 27) 0 [] vN vN vN none vN vN 0 []
def o149 : Obj := oF (vT "code") [(vS "_number" 367), (vS "_number" 368), (vS "/claim/cut.py" 369), (vI (86) 0), (vI (1) 0), (vI (0) 0), (vI (0) 0), (vI (3) 0), (vR 144), (.bool true), (vI (181) 0), (vR 145), vN, (vR 146), (vR 147), (vR 148), (vI (372) 0), (vI (86) 0), (vS "/claim/cut.py" 373)]
def o150 : Obj := oU (vT "function") "_number" "_number" (topS 27) 3 [] vN vN (vS "curveseal.tagged" 277) none (vR 149) vN 0 []
def o151 : Obj := oT []
def o152 : Obj := oF vN []
def o153 : Obj := oT [(vS "value" 378)]
def o154 : Obj := oT []
def o155 : Obj := oU vN "write_tree" "write_tree" (topS 28) 0 [] vN vN vN none vN vN 0 []
def o156 : Obj := oF (vT "code") [(vS "write_tree" 375), (vS "write_tree" 376), (vS "/claim/cut.py" 377), (vI (93) 0), (vI (1) 0), (vI (0) 0), (vI (0) 0), (vI (3) 0), (vR 151), (.bool true), (vI (181) 0), (vR 152), vN, (vR 153), (vR 154), (vR 155), (vI (379) 0), (vI (93) 0), (vS "/claim/cut.py" 380)]
def o157 : Obj := oU (vT "function") "write_tree" "write_tree" (topS 28) 3 [] vN vN (vS "curveseal.tagged" 277) none (vR 156) vN 0 []
def o158 : Obj := oT []
def o159 : Obj := oF vN []
def o160 : Obj := oU vN "_levels" "_levels" (topS 29) 0 [] vN vN vN none vN vN 0 []
def o161 : Obj := oF (vT "code") [(vS "_levels" 382), (vS "_levels" 383), (vS "/claim/cut.py" 384), (vI (97) 0), (vI (1) 0), (vI (0) 0), (vI (0) 0), (vI (3) 0), (vR 158), (.bool true), (vI (181) 0), (vR 159), vN, vN, vN, (vR 160), (vI (385) 0), (vI (97) 0), (vS "/claim/cut.py" 386)]
def o162 : Obj := oU (vT "function") "_levels" "_levels" (topS 29) 3 [] vN vN (vS "curveseal.tagged" 277) none (vR 161) vN 0 []
def o163 : Obj := oT []
def o164 : Obj := oF vN []
def o165 : Obj := oU vN "_part_count" "_part_count" (topS 30) 0 [] vN vN vN none vN vN 0 []
def o166 : Obj := oF (vT "code") [(vS "_part_count" 388), (vS "_part_count" 389), (vS "/claim/cut.py" 390), (vI (101) 0), (vI (1) 0), (vI (0) 0), (vI (0) 0), (vI (3) 0), (vR 163), (.bool true), (vI (181) 0), (vR 164), vN, vN, vN, (vR 165), (vI (391) 0), (vI (101) 0), (vS "/claim/cut.py" 392)]
def o167 : Obj := oU (vT "function") "_part_count" "_part_count" (topS 30) 3 [] vN vN (vS "curveseal.tagged" 277) none (vR 166) vN 0 []
def o168 : Obj := oT []
def o169 : Obj := oF vN []
def o170 : Obj := oU vN "_tree_part" "_tree_part" (topS 31) 0 [] vN vN vN none vN vN 0 []
def o171 : Obj := oF (vT "code") [(vS "_tree_part" 394), (vS "_tree_part" 395), (vS "/claim/cut.py" 396), (vI (105) 0), (vI (1) 0), (vI (0) 0), (vI (0) 0), (vI (3) 0), (vR 168), (.bool true), (vI (181) 0), (vR 169), vN, vN, vN, (vR 170), (vI (397) 0), (vI (105) 0), (vS "/claim/cut.py" 398)]
def o172 : Obj := oU (vT "function") "_tree_part" "_tree_part" (topS 31) 3 [] vN vN (vS "curveseal.tagged" 277) none (vR 171) vN 0 []
def o173 : Obj := oT []
def o174 : Obj := oF vN []
def o175 : Obj := oT [(vS "data" 403), (vS "tag" 404), (vS "content" 405), (vS "value" 406)]
def o176 : Obj := oT []
def o177 : Obj := oU vN "read_tree" "read_tree" (topS 32) 0 [] vN vN vN none vN vN 0 []
def o178 : Obj := oF (vT "code") [(vS "read_tree" 400), (vS "read_tree" 401), (vS "/claim/cut.py" 402), (vI (109) 0), (vI (1) 0), (vI (0) 0), (vI (0) 0), (vI (3) 0), (vR 173), (.bool true), (vI (181) 0), (vR 174), vN, (vR 175), (vR 176), (vR 177), (vI (407) 0), (vI (109) 0), (vS "/claim/cut.py" 408)]
def o179 : Obj := oU (vT "function") "read_tree" "read_tree" (topS 32) 3 [] vN vN (vS "curveseal.tagged" 277) none (vR 178) vN 0 []
def o180 : Obj := oT []
def o181 : Obj := oF vN []
def o182 : Obj := oU vN "_tree_value" "_tree_value" (topS 33) 0 [] vN vN vN none vN vN 0 []
def o183 : Obj := oF (vT "code") [(vS "_tree_value" 410), (vS "_tree_value" 411), (vS "/claim/cut.py" 412), (vI (115) 0), (vI (3) 0), (vI (0) 0), (vI (0) 0), (vI (3) 0), (vR 180), (.bool true), (vI (181) 0), (vR 181), vN, vN, vN, (vR 182), (vI (413) 0), (vI (115) 0), (vS "/claim/cut.py" 414)]
def o184 : Obj := oU (vT "function") "_tree_value" "_tree_value" (topS 33) 3 [] vN vN (vS "curveseal.tagged" 277) none (vR 183) vN 0 []
def o185 : Obj := oT []
def o186 : Obj := oF vN []
def o187 : Obj := oT [(vS "script" 421), (vS "k" 422)]
def o188 : Obj := oT []
def o189 : Obj := oU vN "_law_cell" "_law_cell" (topS 35) 0 [] vN vN vN none vN vN 0 []
def o190 : Obj := oF (vT "code") [(vS "_law_cell" 418), (vS "_law_cell" 419), (vS "/claim/cut.py" 420), (vI (124) 0), (vI (2) 0), (vI (0) 0), (vI (0) 0), (vI (3) 0), (vR 185), (.bool true), (vI (181) 0), (vR 186), vN, (vR 187), (vR 188), (vR 189), (vI (423) 0), (vI (124) 0), (vS "/claim/cut.py" 424)]
def o191 : Obj := oU (vT "function") "_law_cell" "_law_cell" (topS 35) 3 [] vN vN (vS "law_curveseal_k31_trees_and_pairs" 416) none (vR 190) vN 0 []
def o192 : Obj := oT []
def o193 : Obj := oF vN []
def o194 : Obj := oT [(vS "cell" 429), (vS "k" 430), (vS "x" 431)]
def o195 : Obj := oT []
def o196 : Obj := oU vN "_law_twice" "_law_twice" (topS 36) 0 [] vN vN vN none vN vN 0 []
def o197 : Obj := oF (vT "code") [(vS "_law_twice" 426), (vS "_law_twice" 427), (vS "/claim/cut.py" 428), (vI (128) 0), (vI (2) 0), (vI (0) 0), (vI (0) 0), (vI (3) 0), (vR 192), (.bool true), (vI (181) 0), (vR 193), vN, (vR 194), (vR 195), (vR 196), (vI (432) 0), (vI (128) 0), (vS "/claim/cut.py" 433)]
def o198 : Obj := oU (vT "function") "_law_twice" "_law_twice" (topS 36) 3 [] vN vN (vS "law_curveseal_k31_trees_and_pairs" 416) none (vR 197) vN 0 []
def o199 : Obj := oT []
def o200 : Obj := oF vN []
def o201 : Obj := oT [(vS "cell" 438), (vS "size" 439), (vS "left" 440), (vS "great" 441), (vS "data" 442), (vS "k" 443)]
def o202 : Obj := oT []
def o203 : Obj := oU vN "_law_bytes" "_law_bytes" (topS 37) 0 [] vN vN vN none vN vN 0 []
def o204 : Obj := oF (vT "code") [(vS "_law_bytes" 435), (vS "_law_bytes" 436), (vS "/claim/cut.py" 437), (vI (133) 0), (vI (2) 0), (vI (0) 0), (vI (0) 0), (vI (3) 0), (vR 199), (.bool true), (vI (181) 0), (vR 200), vN, (vR 201), (vR 202), (vR 203), (vI (444) 0), (vI (133) 0), (vS "/claim/cut.py" 445)]
def o205 : Obj := oU (vT "function") "_law_bytes" "_law_bytes" (topS 37) 3 [] vN vN (vS "law_curveseal_k31_trees_and_pairs" 416) none (vR 204) vN 0 []
def o206 : Obj := oT []
def o207 : Obj := oF vN []
def o208 : Obj := oT [(vS "x" 450)]
def o209 : Obj := oT []
def o210 : Obj := oU vN "_law_integer" "_law_integer" (topS 38) 0 [] vN vN vN none vN vN 0 []
def o211 : Obj := oF (vT "code") [(vS "_law_integer" 447), (vS "_law_integer" 448), (vS "/claim/cut.py" 449), (vI (144) 0), (vI (1) 0), (vI (0) 0), (vI (0) 0), (vI (3) 0), (vR 206), (.bool true), (vI (181) 0), (vR 207), vN, (vR 208), (vR 209), (vR 210), (vI (451) 0), (vI (144) 0), (vS "/claim/cut.py" 452)]
def o212 : Obj := oU (vT "function") "_law_integer" "_law_integer" (topS 38) 3 [] vN vN (vS "law_curveseal_k31_trees_and_pairs" 416) none (vR 211) vN 0 []
def o213 : Obj := oT []
def o214 : Obj := oF vN []
def o215 : Obj := oT [(vS "found" 457), (vS "due" 458), (vS "one" 459), (vS "other" 460)]
def o216 : Obj := oT []
def o217 : Obj := oU vN "_law_is_list" "_law_is_list" (topS 39) 0 [] vN vN vN none vN vN 0 []
def o218 : Obj := oF (vT "code") [(vS "_law_is_list" 454), (vS "_law_is_list" 455), (vS "/claim/cut.py" 456), (vI (146) 0), (vI (2) 0), (vI (0) 0), (vI (0) 0), (vI (3) 0), (vR 213), (.bool true), (vI (181) 0), (vR 214), vN, (vR 215), (vR 216), (vR 217), (vI (461) 0), (vI (146) 0), (vS "/claim/cut.py" 462)]
def o219 : Obj := oU (vT "function") "_law_is_list" "_law_is_list" (topS 39) 3 [] vN vN (vS "law_curveseal_k31_trees_and_pairs" 416) none (vR 218) vN 0 []
def o220 : Obj := oT []
def o221 : Obj := oF vN []
def o222 : Obj := oT [(vS "size" 467)]
def o223 : Obj := oT []
def o224 : Obj := oU vN "_law_length" "_law_length" (topS 40) 0 [] vN vN vN none vN vN 0 []
def o225 : Obj := oF (vT "code") [(vS "_law_length" 464), (vS "_law_length" 465), (vS "/claim/cut.py" 466), (vI (153) 0), (vI (1) 0), (vI (0) 0), (vI (0) 0), (vI (3) 0), (vR 220), (.bool true), (vI (181) 0), (vR 221), vN, (vR 222), (vR 223), (vR 224), (vI (468) 0), (vI (153) 0), (vS "/claim/cut.py" 469)]
def o226 : Obj := oU (vT "function") "_law_length" "_law_length" (topS 40) 3 [] vN vN (vS "law_curveseal_k31_trees_and_pairs" 416) none (vR 225) vN 0 []
def o227 : Obj := oT []
def o228 : Obj := oF vN []
def o229 : Obj := oT [(vS "number" 474), (vS "content" 475), (vS "left" 476), (vS "turn" 477)]
def o230 : Obj := oT []
def o231 : Obj := oU vN "_law_form" "_law_form" (topS 41) 0 [] vN vN vN none vN vN 0 []
def o232 : Obj := oF (vT "code") [(vS "_law_form" 471), (vS "_law_form" 472), (vS "/claim/cut.py" 473), (vI (159) 0), (vI (1) 0), (vI (0) 0), (vI (0) 0), (vI (3) 0), (vR 227), (.bool true), (vI (181) 0), (vR 228), vN, (vR 229), (vR 230), (vR 231), (vI (478) 0), (vI (159) 0), (vS "/claim/cut.py" 479)]
def o233 : Obj := oU (vT "function") "_law_form" "_law_form" (topS 41) 3 [] vN vN (vS "law_curveseal_k31_trees_and_pairs" 416) none (vR 232) vN 0 []
def o234 : Obj := oT []
def o235 : Obj := oF vN []
def o236 : Obj := oT [(vS "value" 484), (vS "content" 485), (vS "item" 486)]
def o237 : Obj := oT []
def o238 : Obj := oU vN "_law_tree" "_law_tree" (topS 42) 0 [] vN vN vN none vN vN 0 []
def o239 : Obj := oF (vT "code") [(vS "_law_tree" 481), (vS "_law_tree" 482), (vS "/claim/cut.py" 483), (vI (170) 0), (vI (1) 0), (vI (0) 0), (vI (0) 0), (vI (3) 0), (vR 234), (.bool true), (vI (181) 0), (vR 235), vN, (vR 236), (vR 237), (vR 238), (vI (487) 0), (vI (170) 0), (vS "/claim/cut.py" 488)]
def o240 : Obj := oU (vT "function") "_law_tree" "_law_tree" (topS 42) 3 [] vN vN (vS "law_curveseal_k31_trees_and_pairs" 416) none (vR 239) vN 0 []
def o241 : Obj := oT []
def o242 : Obj := oF vN []
def o243 : Obj := oT [(vS "cell" 493), (vS "k" 494), (vS "deep" 495), (vS "most" 496), (vS "draw" 497), (vS "items" 498), (vS "count" 499), (vS "j" 500)]
def o244 : Obj := oT []
def o245 : Obj := oU vN "_law_value" "_law_value" (topS 43) 0 [] vN vN vN none vN vN 0 []
def o246 : Obj := oF (vT "code") [(vS "_law_value" 490), (vS "_law_value" 491), (vS "/claim/cut.py" 492), (vI (177) 0), (vI (4) 0), (vI (0) 0), (vI (0) 0), (vI (3) 0), (vR 241), (.bool true), (vI (181) 0), (vR 242), vN, (vR 243), (vR 244), (vR 245), (vI (501) 0), (vI (177) 0), (vS "/claim/cut.py" 502)]
def o247 : Obj := oU (vT "function") "_law_value" "_law_value" (topS 43) 3 [] vN vN (vS "law_curveseal_k31_trees_and_pairs" 416) none (vR 246) vN 0 []
def o248 : Obj := oT []
def o249 : Obj := oF vN []
def o250 : Obj := oU vN "_law_deep" "_law_deep" (topS 44) 0 [] vN vN vN none vN vN 0 []
def o251 : Obj := oF (vT "code") [(vS "_law_deep" 504), (vS "_law_deep" 505), (vS "/claim/cut.py" 506), (vI (186) 0), (vI (1) 0), (vI (0) 0), (vI (0) 0), (vI (3) 0), (vR 248), (.bool true), (vI (181) 0), (vR 249), vN, vN, vN, (vR 250), (vI (507) 0), (vI (186) 0), (vS "/claim/cut.py" 508)]
def o252 : Obj := oU (vT "function") "_law_deep" "_law_deep" (topS 44) 3 [] vN vN (vS "law_curveseal_k31_trees_and_pairs" 416) none (vR 251) vN 0 []
def o253 : Obj := oT []
def o254 : Obj := oF vN []
def o255 : Obj := oU vN "_law_parts" "_law_parts" (topS 45) 0 [] vN vN vN none vN vN 0 []
def o256 : Obj := oF (vT "code") [(vS "_law_parts" 510), (vS "_law_parts" 511), (vS "/claim/cut.py" 512), (vI (190) 0), (vI (1) 0), (vI (0) 0), (vI (0) 0), (vI (3) 0), (vR 253), (.bool true), (vI (181) 0), (vR 254), vN, vN, vN, (vR 255), (vI (513) 0), (vI (190) 0), (vS "/claim/cut.py" 514)]
def o257 : Obj := oU (vT "function") "_law_parts" "_law_parts" (topS 45) 3 [] vN vN (vS "law_curveseal_k31_trees_and_pairs" 416) none (vR 256) vN 0 []
def o258 : Obj := oT []
def o259 : Obj := oF vN []
def o260 : Obj := oT [(vS "which" 519), (vS "data" 520)]
def o261 : Obj := oT []
def o262 : Obj := oU vN "_law_call" "_law_call" (topS 46) 0 [] vN vN vN none vN vN 0 []
def o263 : Obj := oF (vT "code") [(vS "_law_call" 516), (vS "_law_call" 517), (vS "/claim/cut.py" 518), (vI (194) 0), (vI (2) 0), (vI (0) 0), (vI (0) 0), (vI (3) 0), (vR 258), (.bool true), (vI (181) 0), (vR 259), vN, (vR 260), (vR 261), (vR 262), (vI (521) 0), (vI (194) 0), (vS "/claim/cut.py" 522)]
def o264 : Obj := oU (vT "function") "_law_call" "_law_call" (topS 46) 3 [] vN vN (vS "law_curveseal_k31_trees_and_pairs" 416) none (vR 263) vN 0 []
def o265 : Obj := oT []
def o266 : Obj := oF vN []
def o267 : Obj := oT [(vS "which" 527), (vS "data" 528)]
def o268 : Obj := oT []
def o269 : Obj := oU vN "_law_told" "_law_told" (topS 47) 0 [] vN vN vN none vN vN 0 []
def o270 : Obj := oF (vT "code") [(vS "_law_told" 524), (vS "_law_told" 525), (vS "/claim/cut.py" 526), (vI (202) 0), (vI (2) 0), (vI (0) 0), (vI (0) 0), (vI (3) 0), (vR 265), (.bool true), (vI (181) 0), (vR 266), vN, (vR 267), (vR 268), (vR 269), (vI (529) 0), (vI (202) 0), (vS "/claim/cut.py" 530)]
def o271 : Obj := oU (vT "function") "_law_told" "_law_told" (topS 47) 3 [] vN vN (vS "law_curveseal_k31_trees_and_pairs" 416) none (vR 270) vN 0 []
def o272 : Obj := oT []
def o273 : Obj := oF vN []
def o274 : Obj := oT [(vS "cell" 535), (vS "value" 536), (vS "turn" 537)]
def o275 : Obj := oT []
def o276 : Obj := oU vN "_law_wide" "_law_wide" (topS 48) 0 [] vN vN vN none vN vN 0 []
def o277 : Obj := oF (vT "code") [(vS "_law_wide" 532), (vS "_law_wide" 533), (vS "/claim/cut.py" 534), (vI (211) 0), (vI (1) 0), (vI (0) 0), (vI (0) 0), (vI (3) 0), (vR 272), (.bool true), (vI (181) 0), (vR 273), vN, (vR 274), (vR 275), (vR 276), (vI (538) 0), (vI (211) 0), (vS "/claim/cut.py" 539)]
def o278 : Obj := oU (vT "function") "_law_wide" "_law_wide" (topS 48) 3 [] vN vN (vS "law_curveseal_k31_trees_and_pairs" 416) none (vR 277) vN 0 []
def o279 : Obj := oT []
def o280 : Obj := oF vN []
def o281 : Obj := oT [(vS "form" 544), (vS "cell" 545), (vS "data" 546), (vS "at" 547)]
def o282 : Obj := oT []
def o283 : Obj := oU vN "_law_near" "_law_near" (topS 49) 0 [] vN vN vN none vN vN 0 []
def o284 : Obj := oF (vT "code") [(vS "_law_near" 541), (vS "_law_near" 542), (vS "/claim/cut.py" 543), (vI (216) 0), (vI (2) 0), (vI (0) 0), (vI (0) 0), (vI (3) 0), (vR 279), (.bool true), (vI (181) 0), (vR 280), vN, (vR 281), (vR 282), (vR 283), (vI (548) 0), (vI (216) 0), (vS "/claim/cut.py" 549)]
def o285 : Obj := oU (vT "function") "_law_near" "_law_near" (topS 49) 3 [] vN vN (vS "law_curveseal_k31_trees_and_pairs" 416) none (vR 284) vN 0 []
def o286 : Obj := oT []
def o287 : Obj := oF vN []
def o288 : Obj := oT [(vS "value" 554)]
def o289 : Obj := oT []
def o290 : Obj := oU vN "_law_is_number" "_law_is_number" (topS 50) 0 [] vN vN vN none vN vN 0 []
def o291 : Obj := oF (vT "code") [(vS "_law_is_number" 551), (vS "_law_is_number" 552), (vS "/claim/cut.py" 553), (vI (228) 0), (vI (1) 0), (vI (0) 0), (vI (0) 0), (vI (3) 0), (vR 286), (.bool true), (vI (181) 0), (vR 287), vN, (vR 288), (vR 289), (vR 290), (vI (555) 0), (vI (228) 0), (vS "/claim/cut.py" 556)]
def o292 : Obj := oU (vT "function") "_law_is_number" "_law_is_number" (topS 50) 3 [] vN vN (vS "law_curveseal_k31_trees_and_pairs" 416) none (vR 291) vN 0 []
def o293 : Obj := oT []
def o294 : Obj := oF vN []
def o295 : Obj := oU vN "_law_fits" "_law_fits" (topS 51) 0 [] vN vN vN none vN vN 0 []
def o296 : Obj := oF (vT "code") [(vS "_law_fits" 558), (vS "_law_fits" 559), (vS "/claim/cut.py" 560), (vI (230) 0), (vI (1) 0), (vI (0) 0), (vI (0) 0), (vI (3) 0), (vR 293), (.bool true), (vI (181) 0), (vR 294), vN, vN, vN, (vR 295), (vI (561) 0), (vI (230) 0), (vS "/claim/cut.py" 562)]
def o297 : Obj := oU (vT "function") "_law_fits" "_law_fits" (topS 51) 3 [] vN vN (vS "law_curveseal_k31_trees_and_pairs" 416) none (vR 296) vN 0 []
def o298 : Obj := oT []
def o299 : Obj := oF vN []
def o300 : Obj := oT [(vS "which" 567), (vS "found" 568), (vS "data" 569), (vS "value" 570)]
def o301 : Obj := oT []
def o302 : Obj := oU vN "_law_right" "_law_right" (topS 52) 0 [] vN vN vN none vN vN 0 []
def o303 : Obj := oF (vT "code") [(vS "_law_right" 564), (vS "_law_right" 565), (vS "/claim/cut.py" 566), (vI (234) 0), (vI (3) 0), (vI (0) 0), (vI (0) 0), (vI (3) 0), (vR 298), (.bool true), (vI (181) 0), (vR 299), vN, (vR 300), (vR 301), (vR 302), (vI (571) 0), (vI (234) 0), (vS "/claim/cut.py" 572)]
def o304 : Obj := oU (vT "function") "_law_right" "_law_right" (topS 52) 3 [] vN vN (vS "law_curveseal_k31_trees_and_pairs" 416) none (vR 303) vN 0 []
def o305 : Obj := oT []
def o306 : Obj := oF vN []
def o307 : Obj := oT [(vS "script" 577), (vS "k" 578), (vS "cell" 579), (vS "value" 580), (vS "found" 581), (vS "form" 582), (vS "near" 583), (vS "which" 584), (vS "pair" 585), (vS "bad" 586)]
def o308 : Obj := oT []
def o309 : Obj := oU vN "law" "law" (topS 53) 0 [] vN vN vN none vN vN 0 []
def o310 : Obj := oF (vT "code") [(vS "law" 574), (vS "law" 575), (vS "/claim/cut.py" 576), (vI (241) 0), (vI (1) 0), (vI (0) 0), (vI (0) 0), (vI (3) 0), (vR 305), (.bool true), (vI (181) 0), (vR 306), vN, (vR 307), (vR 308), (vR 309), (vI (587) 0), (vI (241) 0), (vS "/claim/cut.py" 588)]
def o311 : Obj := oU (vT "function") "law" "law" (topS 53) 3 [] vN vN (vS "law_curveseal_k31_trees_and_pairs" 416) none (vR 310) vN 0 []
def b0_0 (w : World) : List Obj := [o0 w, o1 w, o2 w, o3 w, o4, o5, o6 w, o7, o8, o9, o10]
def S_x (w : World) : SharedT := ⟨trF 16 (b0_0 w), 11, {}, #[], {}, 181, {}⟩
def b0_1 (w : World) : List Obj := [o0 w, o1 w, o2 w, o3 w, o4, o5, o6 w, o7, o8, o9, o10, o11, o12, o13, o14]
def S_s (w : World) : SharedT := ⟨trF 16 (b0_1 w), 15, {}, #[], {}, 187, {}⟩
def b0_2 (w : World) : List Obj := [o0 w, o1 w, o2 w, o3_1 w, o4, o5, o6 w, o7, o8, o9, o10, o11, o12_1, o13, o14, o15, o16, o17 w, o18, o19, o20, o21, o22, o23 w, o24, o25, o26, o27, o28, o29, o30 w, o31, o32, o33, o34, o35, o36 w, o37, o38, o39]
def b1_2 (w : World) : List Obj := [o40, o41, o42 w, o43, o44, o45, o46, o47, o48 w, o49, o50, o51, o52, o53, o54, o55, o56, o57, o58, o59, o60, o61, o62, o63, o64, o65, o66, o67, o68, o69, o70, o71, o72, o73, o74, o75, o76, o77, o78, o79]
def b2_2 (w : World) : List Obj := [o80, o81, o82, o83, o84, o85, o86, o87, o88, o89, o90, o91, o92, o93, o94, o95, o96, o97, o98, o99, o100, o101, o102, o103, o104, o105, o106, o107, o108, o109, o110, o111, o112, o113, o114, o115, o116, o117, o118, o119]
def b3_2 (w : World) : List Obj := [o120, o121, o122, o123, o124, o125, o126, o127, o128, o129, o130, o131, o132, o133, o134, o135, o136, o137, o138, o139, o140, o141, o142, o143, o144, o145, o146, o147, o148, o149, o150, o151, o152, o153, o154, o155, o156, o157, o158, o159]
def b4_2 (w : World) : List Obj := [o160, o161, o162, o163, o164, o165, o166, o167, o168, o169, o170, o171, o172, o173, o174, o175, o176, o177, o178, o179, o180, o181, o182, o183, o184, o185, o186, o187, o188, o189, o190, o191, o192, o193, o194, o195, o196, o197, o198, o199]
def b5_2 (w : World) : List Obj := [o200, o201, o202, o203, o204, o205, o206, o207, o208, o209, o210, o211, o212, o213, o214, o215, o216, o217, o218, o219, o220, o221, o222, o223, o224, o225, o226, o227, o228, o229, o230, o231, o232, o233, o234, o235, o236, o237, o238, o239]
def b6_2 (w : World) : List Obj := [o240, o241, o242, o243, o244, o245, o246, o247, o248, o249, o250, o251, o252, o253, o254, o255, o256, o257, o258, o259, o260, o261, o262, o263, o264, o265, o266, o267, o268, o269, o270, o271, o272, o273, o274, o275, o276, o277, o278, o279]
def b7_2 (w : World) : List Obj := [o280, o281, o282, o283, o284, o285, o286, o287, o288, o289, o290, o291, o292, o293, o294, o295, o296, o297, o298, o299, o300, o301, o302, o303, o304, o305, o306, o307, o308, o309, o310, o311]
def S_p0 (w : World) : SharedT := ⟨trF 16 (b0_2 w ++ (b1_2 w ++ (b2_2 w ++ (b3_2 w ++ (b4_2 w ++ (b5_2 w ++ (b6_2 w ++ (b7_2 w)))))))), 312, {}, #[], {}, 590, {}⟩
def S_f (w : World) : SharedT := ⟨trF 16 (b0_2 w ++ (b1_2 w ++ (b2_2 w ++ (b3_2 w ++ (b4_2 w ++ (b5_2 w ++ (b6_2 w ++ (b7_2 w)))))))), 312, {}, #[], {}, 590, {}⟩
abbrev annP : Option Value := (some (vR 6))
def envP : Env := envT Rw.prog (vR 13) 14
def codP : Code := .body (behindTheImports Rw.prog) envP
abbrev stkP : List Frame := frT1 (.builtin "claim.caller" {}) ⟨0, 0, 0, 0⟩
def cutP (a b : Nat) : List Stmt := ((behindTheImports Rw.prog).drop a).take (b - a)
def L_x (w : World) : List Obj := [o0 w, o1 w, o2 w, o3 w, o4, o5, o6 w, o7, o8, o9, o10]
theorem op_ (w : World) : openQ w 20000000 Rw.prog = some (L_x w, (S_x w).life, (S_x w).gens, (S_x w).drawn, (S_x w).toks, (S_x w).os) := by
  kernel_rfl
theorem xl_ (w : World) : (S_x w).abs.heap.objs.toList = L_x w := by
  kernel_rfl
theorem xg_ (w : World) : ((S_x w).abs.heap.isNs mainGlobals && (S_x w).abs.gens.size == 0) = true := by
  kernel_rfl
theorem xn_ (w : World) : (S_x w).abs.heap.objs.size = 11 := by
  kernel_rfl
theorem xa_ (w : World) : (S_x w).abs.heap.nsMap mainGlobals "__annotations__" = annP := by
  kernel_rfl
theorem st_ (w : World) : startB (stQ Rw.prog w) 11 annP Rw.prog (S_x w) = some (S_s w, (vR 13), 14, .builtin "claim.caller" {}, ⟨0, 0, 0, 0⟩, codP, ⟨0, 0, 0, 0⟩) := by
  kernel_rfl
theorem pc_p0_f (w : World) : sgRun (stQ Rw.prog (w.withFollow "special-get-raises" false)) 11 annP stkP.length 40000 (S_s (w.withFollow "special-get-raises" false)) ⟨(execs (cutP 0 54) envP).wrap (fun f => .pure (.done (id f))) deadEnd id id, codP, ⟨0, 0, 0, 0⟩, stkP⟩ = some (.next, S_p0 (w.withFollow "special-get-raises" false), codP, ⟨241, 0, 272, 15⟩) := by
  kernel_rfl
theorem pc_p0_t (w : World) : sgRun (stQ Rw.prog (w.withFollow "special-get-raises" true)) 11 annP stkP.length 40000 (S_s (w.withFollow "special-get-raises" true)) ⟨(execs (cutP 0 54) envP).wrap (fun f => .pure (.done (id f))) deadEnd id id, codP, ⟨0, 0, 0, 0⟩, stkP⟩ = some (.next, S_p0 (w.withFollow "special-get-raises" true), codP, ⟨241, 0, 272, 15⟩) := by
  kernel_rfl
theorem pc_p0 (w : World) : sgRun (stQ Rw.prog w) 11 annP stkP.length 40000 (S_s w) ⟨(execs (cutP 0 54) envP).wrap (fun f => .pure (.done (id f))) deadEnd id id, codP, ⟨0, 0, 0, 0⟩, stkP⟩ = some (.next, S_p0 w, codP, ⟨241, 0, 272, 15⟩) := PySem.W.byRow2 (P := fun w => sgRun (stQ Rw.prog w) 11 annP stkP.length 40000 (S_s w) ⟨(execs (cutP 0 54) envP).wrap (fun f => .pure (.done (id f))) deadEnd id id, codP, ⟨0, 0, 0, 0⟩, stkP⟩ = some (.next, S_p0 w, codP, ⟨241, 0, 272, 15⟩)) "special-get-raises" pc_p0_f pc_p0_t w
theorem fin_ (w : World) : goF (stQ Rw.prog w) 11 annP 40000 (S_p0 w) ⟨(execs [] envP).wrap doneF (leaveH envP) id id, codP, ⟨241, 0, 272, 15⟩, stkP⟩ = some (S_f w) := by
  kernel_rfl
theorem body_ : behindTheImports Rw.prog = (cutP 0 54 ++ []) := by
  kernel_rfl
theorem runp_ (w : World) : RunP Rw.prog w 11 annP envP stkP (cutP 0 54 ++ []) (S_s w) codP ⟨0, 0, 0, 0⟩ (40000 + (40000)) (S_f w) :=
  runP_app rfl (pc_p0 w) (runP_nil (fin_ w))
theorem runw_ (w : World) : RunW Rw.prog w 20000000 (fuelT + (fuelT + (1 + (fuelT + (40000 + (40000)))))) (S_x w) (S_f w) := runW_of (op_ w) (xl_ w) (xg_ w) (xn_ w) (xa_ w) (st_ w) (body_ ▸ runp_ w)
theorem lk1_ (w : World) : HandSHeadRun.looksF Rw.prog (S_x w).abs.heap (S_f w).abs = true := by
  kernel_rfl
theorem lk2_ (w : World) : HandSHeadRun.seenQ (PySem.W.view Rw.prog [53]) ((["is_whole", "to_little", "to_big", "from_big", "is_bytes", "write_length", "read_length", "write_number", "_number_content", "_part", "write_pair", "read_pair", "_only_part", "_split_parts", "_number", "write_tree", "_levels", "_part_count", "_tree_part", "read_tree", "_tree_value", "_law_cell", "_law_twice", "_law_bytes", "_law_integer"] : List Str) ++ (["_law_is_list", "_law_length", "_law_form", "_law_tree", "_law_value", "_law_deep", "_law_parts", "_law_call", "_law_told", "_law_wide", "_law_near", "_law_is_number", "_law_fits", "_law_right", "CurveError", "OutOfRange", "Malformed", "NUMBER_TAG", "SEQUENCE_TAG", "LONGEST_CONTENT", "MOST_BITS", "LONGEST_NUMBER", "MOST_LEVELS", "MOST_PARTS"] : List Str)) (importedModules Rw.prog.main.body) (fun s => xlAt (PySem.W.view Rw.prog [53]) [] s && recOk Rw.toRowW.records s) (S_f w).abs = PySem.W.openGood (PySem.W.view Rw.prog [53]) ((["is_whole", "to_little", "to_big", "from_big", "is_bytes", "write_length", "read_length", "write_number", "_number_content", "_part", "write_pair", "read_pair", "_only_part", "_split_parts", "_number", "write_tree", "_levels", "_part_count", "_tree_part", "read_tree", "_tree_value", "_law_cell", "_law_twice", "_law_bytes", "_law_integer"] : List Str) ++ (["_law_is_list", "_law_length", "_law_form", "_law_tree", "_law_value", "_law_deep", "_law_parts", "_law_call", "_law_told", "_law_wide", "_law_near", "_law_is_number", "_law_fits", "_law_right", "CurveError", "OutOfRange", "Malformed", "NUMBER_TAG", "SEQUENCE_TAG", "LONGEST_CONTENT", "MOST_BITS", "LONGEST_NUMBER", "MOST_LEVELS", "MOST_PARTS"] : List Str)) := by
  kernel_rfl
theorem lk3_ (w : World) : ob (S_f w) = hk.val w := by
  kernel_rfl
abbrev fuelQ : Nat := fuelT + (fuelT + (1 + (fuelT + (40000 + (40000)))))
end
abbrev FnP (K : PySem.W.Frag) (x q : Str) (st : Stmt) (f : Addr) (fd : FuncData) : Prop := FunD K x q (defArgs st) (defBody st) (defScope st) [] [] f fd
abbrev FnPk (kws : List (Str × V)) (K : PySem.W.Frag) (x q : Str) (st : Stmt) (f : Addr) (fd : FuncData) : Prop := FunD K x q (defArgs st) (defBody st) (defScope st) [] kws f fd
structure Facts (P : Program) (w : World) (K : PySem.W.Frag) (mg : Str → Option Value) : Prop where
  d_is_whole : ∃ fd, FnP K "is_whole" "is_whole" s_is_whole (He.ga K "is_whole") fd
  g_is_whole : mg "is_whole" = some (.ref (He.ga K "is_whole"))
  d_to_little : ∃ fd, FnP K "to_little" "to_little" s_to_little (He.ga K "to_little") fd
  g_to_little : mg "to_little" = some (.ref (He.ga K "to_little"))
  d_to_big : ∃ fd, FnP K "to_big" "to_big" s_to_big (He.ga K "to_big") fd
  g_to_big : mg "to_big" = some (.ref (He.ga K "to_big"))
  d_from_big : ∃ fd, FnP K "from_big" "from_big" s_from_big (He.ga K "from_big") fd
  g_from_big : mg "from_big" = some (.ref (He.ga K "from_big"))
  d_is_bytes : ∃ fd, FnP K "is_bytes" "is_bytes" s_is_bytes (He.ga K "is_bytes") fd
  g_is_bytes : mg "is_bytes" = some (.ref (He.ga K "is_bytes"))
  d_write_length : ∃ fd, FnP K "write_length" "write_length" s_write_length (He.ga K "write_length") fd
  g_write_length : mg "write_length" = some (.ref (He.ga K "write_length"))
  d_read_length : ∃ fd, FnP K "read_length" "read_length" s_read_length (He.ga K "read_length") fd
  g_read_length : mg "read_length" = some (.ref (He.ga K "read_length"))
  d_write_number : ∃ fd, FnP K "write_number" "write_number" s_write_number (He.ga K "write_number") fd
  g_write_number : mg "write_number" = some (.ref (He.ga K "write_number"))
  d_u_number_content : ∃ fd, FnP K "_number_content" "_number_content" s_u_number_content (He.ga K "_number_content") fd
  g_u_number_content : mg "_number_content" = some (.ref (He.ga K "_number_content"))
  d_u_part : ∃ fd, FnP K "_part" "_part" s_u_part (He.ga K "_part") fd
  g_u_part : mg "_part" = some (.ref (He.ga K "_part"))
  d_write_pair : ∃ fd, FnP K "write_pair" "write_pair" s_write_pair (He.ga K "write_pair") fd
  g_write_pair : mg "write_pair" = some (.ref (He.ga K "write_pair"))
  d_read_pair : ∃ fd, FnP K "read_pair" "read_pair" s_read_pair (He.ga K "read_pair") fd
  g_read_pair : mg "read_pair" = some (.ref (He.ga K "read_pair"))
  d_u_only_part : ∃ fd, FnP K "_only_part" "_only_part" s_u_only_part (He.ga K "_only_part") fd
  g_u_only_part : mg "_only_part" = some (.ref (He.ga K "_only_part"))
  d_u_split_parts : ∃ fd, FnP K "_split_parts" "_split_parts" s_u_split_parts (He.ga K "_split_parts") fd
  g_u_split_parts : mg "_split_parts" = some (.ref (He.ga K "_split_parts"))
  d_u_number : ∃ fd, FnP K "_number" "_number" s_u_number (He.ga K "_number") fd
  g_u_number : mg "_number" = some (.ref (He.ga K "_number"))
  d_write_tree : ∃ fd, FnP K "write_tree" "write_tree" s_write_tree (He.ga K "write_tree") fd
  g_write_tree : mg "write_tree" = some (.ref (He.ga K "write_tree"))
  d_u_levels : ∃ fd, FnP K "_levels" "_levels" s_u_levels (He.ga K "_levels") fd
  g_u_levels : mg "_levels" = some (.ref (He.ga K "_levels"))
  d_u_part_count : ∃ fd, FnP K "_part_count" "_part_count" s_u_part_count (He.ga K "_part_count") fd
  g_u_part_count : mg "_part_count" = some (.ref (He.ga K "_part_count"))
  d_u_tree_part : ∃ fd, FnP K "_tree_part" "_tree_part" s_u_tree_part (He.ga K "_tree_part") fd
  g_u_tree_part : mg "_tree_part" = some (.ref (He.ga K "_tree_part"))
  d_read_tree : ∃ fd, FnP K "read_tree" "read_tree" s_read_tree (He.ga K "read_tree") fd
  g_read_tree : mg "read_tree" = some (.ref (He.ga K "read_tree"))
  d_u_tree_value : ∃ fd, FnP K "_tree_value" "_tree_value" s_u_tree_value (He.ga K "_tree_value") fd
  g_u_tree_value : mg "_tree_value" = some (.ref (He.ga K "_tree_value"))
  d_u_law_cell : ∃ fd, FnP K "_law_cell" "_law_cell" s_u_law_cell (He.ga K "_law_cell") fd
  g_u_law_cell : mg "_law_cell" = some (.ref (He.ga K "_law_cell"))
  d_u_law_twice : ∃ fd, FnP K "_law_twice" "_law_twice" s_u_law_twice (He.ga K "_law_twice") fd
  g_u_law_twice : mg "_law_twice" = some (.ref (He.ga K "_law_twice"))
  d_u_law_integer : ∃ fd, FnP K "_law_integer" "_law_integer" s_u_law_integer (He.ga K "_law_integer") fd
  g_u_law_integer : mg "_law_integer" = some (.ref (He.ga K "_law_integer"))
  d_u_law_is_list : ∃ fd, FnP K "_law_is_list" "_law_is_list" s_u_law_is_list (He.ga K "_law_is_list") fd
  g_u_law_is_list : mg "_law_is_list" = some (.ref (He.ga K "_law_is_list"))
  d_u_law_length : ∃ fd, FnP K "_law_length" "_law_length" s_u_law_length (He.ga K "_law_length") fd
  g_u_law_length : mg "_law_length" = some (.ref (He.ga K "_law_length"))
  d_u_law_form : ∃ fd, FnP K "_law_form" "_law_form" s_u_law_form (He.ga K "_law_form") fd
  g_u_law_form : mg "_law_form" = some (.ref (He.ga K "_law_form"))
  d_u_law_tree : ∃ fd, FnP K "_law_tree" "_law_tree" s_u_law_tree (He.ga K "_law_tree") fd
  g_u_law_tree : mg "_law_tree" = some (.ref (He.ga K "_law_tree"))
  d_u_law_value : ∃ fd, FnP K "_law_value" "_law_value" s_u_law_value (He.ga K "_law_value") fd
  g_u_law_value : mg "_law_value" = some (.ref (He.ga K "_law_value"))
  d_u_law_deep : ∃ fd, FnP K "_law_deep" "_law_deep" s_u_law_deep (He.ga K "_law_deep") fd
  g_u_law_deep : mg "_law_deep" = some (.ref (He.ga K "_law_deep"))
  d_u_law_parts : ∃ fd, FnP K "_law_parts" "_law_parts" s_u_law_parts (He.ga K "_law_parts") fd
  g_u_law_parts : mg "_law_parts" = some (.ref (He.ga K "_law_parts"))
  d_u_law_call : ∃ fd, FnP K "_law_call" "_law_call" s_u_law_call (He.ga K "_law_call") fd
  g_u_law_call : mg "_law_call" = some (.ref (He.ga K "_law_call"))
  d_u_law_told : ∃ fd, FnP K "_law_told" "_law_told" s_u_law_told (He.ga K "_law_told") fd
  g_u_law_told : mg "_law_told" = some (.ref (He.ga K "_law_told"))
  d_u_law_wide : ∃ fd, FnP K "_law_wide" "_law_wide" s_u_law_wide (He.ga K "_law_wide") fd
  g_u_law_wide : mg "_law_wide" = some (.ref (He.ga K "_law_wide"))
  d_u_law_near : ∃ fd, FnP K "_law_near" "_law_near" s_u_law_near (He.ga K "_law_near") fd
  g_u_law_near : mg "_law_near" = some (.ref (He.ga K "_law_near"))
  d_u_law_is_number : ∃ fd, FnP K "_law_is_number" "_law_is_number" s_u_law_is_number (He.ga K "_law_is_number") fd
  g_u_law_is_number : mg "_law_is_number" = some (.ref (He.ga K "_law_is_number"))
  d_u_law_fits : ∃ fd, FnP K "_law_fits" "_law_fits" s_u_law_fits (He.ga K "_law_fits") fd
  g_u_law_fits : mg "_law_fits" = some (.ref (He.ga K "_law_fits"))
  d_u_law_right : ∃ fd, FnP K "_law_right" "_law_right" s_u_law_right (He.ga K "_law_right") fd
  g_u_law_right : mg "_law_right" = some (.ref (He.ga K "_law_right"))
  d_law : ∃ fd, FnP K "law" "law" s_law (He.ga K "law") fd
  g_law : mg "law" = some (.ref (He.ga K "law"))
  g_CurveError : mg "CurveError" = some (.ref (He.ga K "CurveError"))
  g_OutOfRange : mg "OutOfRange" = some (.ref (He.ga K "OutOfRange"))
  g_Malformed : mg "Malformed" = some (.ref (He.ga K "Malformed"))
  x_Malformed : PySem.W.excIn K (He.ga K "Malformed") He.veBase "ValueError.__new__" = true
  k_Malformed : PySem.W.keepIn K (.ref (He.ga K "Malformed")) = true
  b_Malformed : PySem.W.subIn K (.ref (He.ga K "Malformed")) (.type "BaseException") = some true
  t_Malformed : PySem.W.typeIn K (.ref (He.ga K "Malformed")) = some (.type "type")
  x_OutOfRange : PySem.W.excIn K (He.ga K "OutOfRange") He.veBase "ValueError.__new__" = true
  k_OutOfRange : PySem.W.keepIn K (.ref (He.ga K "OutOfRange")) = true
  b_OutOfRange : PySem.W.subIn K (.ref (He.ga K "OutOfRange")) (.type "BaseException") = some true
  t_OutOfRange : PySem.W.typeIn K (.ref (He.ga K "OutOfRange")) = some (.type "type")
  n_abs : mg "abs" = none
  n_all : mg "all" = none
  n_bool : mg "bool" = none
  n_int : mg "int" = none
  n_isinstance : mg "isinstance" = none
  n_len : mg "len" = none
  n_list : mg "list" = none
  n_max : mg "max" = none
  n_range : mg "range" = none
  n_sum : mg "sum" = none
  n_tuple : mg "tuple" = none
  n_zip : mg "zip" = none
  c_NUMBER_TAG : ∃ t, mg "NUMBER_TAG" = some (.int 2 t)
  c_SEQUENCE_TAG : ∃ t, mg "SEQUENCE_TAG" = some (.int 48 t)
  c_LONGEST_CONTENT : ∃ t, mg "LONGEST_CONTENT" = some (.int 65535 t)
  c_MOST_BITS : ∃ t, mg "MOST_BITS" = some (.int 520 t)
  c_LONGEST_NUMBER : ∃ t, mg "LONGEST_NUMBER" = some (.int 66 t)
  c_MOST_LEVELS : ∃ t, mg "MOST_LEVELS" = some (.int 8 t)
  c_MOST_PARTS : ∃ t, mg "MOST_PARTS" = some (.int 64 t)
  cls : Cls K errs subE
noncomputable def m_is_whole (value_ : D) : Res Bool :=
  (Res.need ((toD value_).plain = true) (Res.ok (isI "int" (toD value_)))).bind fun b2 => cond b2 ((Res.need ((toD value_).plain = true) (Res.ok (isI "bool" (toD value_)))).bind fun (t1 : Bool) => Res.ok (!t1)) (Res.ok false)
theorem ok_is_whole {P : Program} {w : World} {K : PySem.W.Frag} {mg : Str → Option Value} {base : Heap} (T : Facts P w K mg) {fd : FuncData} (F : FnP K "is_whole" "is_whole" s_is_whole (He.ga K "is_whole") fd) :
    FnOk P w K mg base (L2.CX P w) 1 (He.ga K "is_whole") fd ["value"] (spM K (fun (p : D × Unit) => m_is_whole p.1)) := by
  refine fn_ok F sc_is_whole (fun y => rfl) (fun cdv A outer s H E hr => ?_)
  refine ⟨_, (pss_one (ps_ret (pe_and (pe_callB call_isi (by rfl) T.n_isinstance (by decide +kernel) (pa_cons (pv 0) (pa_cons (pe_bltn (v := .ty "int") (by rfl) T.n_int (by decide +kernel) rfl) pa_nil))) (pe_one (pe_not (pe_callB call_isi (by rfl) T.n_isinstance (by decide +kernel) (pa_cons (pv 0) (pa_cons (pe_bltn (v := .ty "bool") (by rfl) T.n_bool (by decide +kernel) rfl) pa_nil)))))))), ?_⟩
  rintro ⟨value_, ⟨⟩⟩ F0 H0 Q KP L
  show Blk K F0 H0 KP _ [iM value_] (m_is_whole value_)
  unfold m_is_whole
  have hr_ := ((ev_andV (ev_isi isi_int (ev_var (i := 0) (x := value_) rfl)) (ev_notV (ev_isi isi_bool (ev_var (i := 0) (x := value_) rfl)))) : EvX K (W0 E) [iM value_] _ _)
  exact blk_ret L trivial (by exact hr_)
noncomputable def m_to_little (number_ : Int) (size_ : Int) : Res (List Int) :=
  (cond (decide (number_ < (0 : Int))) (Res.ok true) ((Res.ok (decide (((8 : Int) * size_) < ((Builtin.Int.intBits number_ : Nat) : Int)))))).bind fun b => cond b   (((((Res.ok size_)).bind fun (t3 : Int) => Res.need (Nat.log2 (Int.natAbs t3) < 1920 ∧ (toString t3 : Str).length ≤ 1000) (Res.ok ()))).bind fun (_ : Unit) => Res.exc "OutOfRange")   ((Res.need (okRange size_) (Res.ok (pyRange 0 size_))).bind fun (xs6 : List Int) => Res.need (xs6.length ≤ 16777216) (compL (fun (x4 : Int) => Res.ok true) (fun (x4 : Int) => (Res.need (0 ≤ ((8 : Int) * x4)) (Res.ok (number_ / 2 ^ ((8 : Int) * x4).toNat))).bind fun (t5 : Int) => Res.ok (Builtin.bitAnd t5 (255 : Int))) xs6))
theorem ok_to_little {P : Program} {w : World} {K : PySem.W.Frag} {mg : Str → Option Value} {base : Heap} (T : Facts P w K mg) {fd : FuncData} (F : FnP K "to_little" "to_little" s_to_little (He.ga K "to_little") fd) :
    FnOk P w K mg base (L2.CX P w) 1 (He.ga K "to_little") fd ["number", "size"] (spM K (fun (p : Int × Int × Unit) => m_to_little p.1 p.2.1)) := by
  refine fn_ok F sc_to_little (fun y => rfl) (fun cdv A outer s H E hr => ?_)
  refine ⟨_, (pss_cons (ps_if (PW.pt (pw_or (pt_cmpR op_lt (pv 0) pe_int (nomark _)) (pw_or1 (pt_cmpR op_gt (pe_bits (pv 0)) (pe_op op_mul pe_int (pv 1)) (nomark _))))) (pss_one (ps_raise rfl (takes_of rfl rfl rfl rfl) (SkE.pmk_own1 PySem.F.excBase_ValueError T.x_OutOfRange T.g_OutOfRange T.k_OutOfRange (raises_own T.b_OutOfRange T.t_OutOfRange) rfl (pe_joined (PJ.cons pe_str (PJ.cons (pe_fmt (pv 1)) (PJ.cons pe_str PJ.nil))))))) pss_nil) (pss_one (ps_ret (pe_lc (own := [("at", 2)]) rfl sc_to_little.nd (pi_range1 rfl T.n_range (pa_cons (pv 1) pa_nil)) (blkOk_by (own := [("at", 2)]) (N := ["number", "size", "at"]) (sc := defScope s_to_little) (by decide +kernel)) (fun _ _ _ _ _ => (pg_name (i := 2) sc_to_little.nd rfl (Or.inl rfl))) (fun _ _ _ _ _ => pts_nil) (fun _ _ _ _ _ => (pe_op op_and (pe_op op_shr (pv 0) (pe_op op_mul pe_int (pv 2))) pe_int)))))), ?_⟩
  rintro ⟨number_, size_, ⟨⟩⟩ F0 H0 Q KP L
  show Blk K F0 H0 KP _ [iM number_, iM size_, none] (m_to_little number_ size_)
  unfold m_to_little
  have ht_ := ((et_or (et_test (ev_op (opx_B0 (g := fun i j => decide (i < j))) mild_ok (ev_var (i := 0) (x := number_) rfl) (ev_int (i := 0)))) (et_test (ev_op (opx_B0 (g := fun i j => decide (j < i))) mild_ok (ev_bits (ev_var (i := 0) (x := number_) rfl)) (ev_opI (C := CMul) (g := fun i j => i * j) (fun x y h _ => by cases h; exact .inl (by decide)) (ev_int (i := 8)) (ev_var (i := 1) (x := size_) rfl))))) : EvT K (W0 E) [iM number_, iM size_, none] _ _)
  refine blk_seq (blk_if2 L trivial (by exact ht_) ?_ ?_)
  · exact blk_raiseJ L trivial (by rw [sizeLine_eq]; decide) ((ej_txt (n := 29) (x := "the number does not fit into ") (by decide) (ej_int (ev_var (i := 1) (x := size_) rfl) (ej_txt (n := 6) (x := " bytes") (by decide) ej_nil))) : EvJ K (W0 E) [iM number_, iM size_, none] _ _ _)
  · refine blk_nil ?_
    try refine Blk.nx ?_
    have hr_ := ((ev_ofN (ev_comp (tst := fun (x4 : Int) => Res.ok true) (el := fun (x4 : Int) => (Res.need (0 ≤ ((8 : Int) * x4)) (Res.ok (number_ / 2 ^ ((8 : Int) * x4).toNat))).bind fun (t5 : Int) => Res.ok (Builtin.bitAnd t5 (255 : Int))) (ws := [2]) (ei_range1 (ev_var (i := 1) (x := size_) rfl)) (fun _ => gx_name) (fun x4 => et_yes) (fun x4 => ((ev_op (opx_I0 (g := Builtin.bitAnd)) mild_ok (ev_op (opx_I (C := (fun _ j => 0 ≤ j)) (g := fun i j => i / 2 ^ j.toNat)) mild_need (ev_var (i := 0) (x := number_) rfl) (ev_opI (C := CMul) (g := fun i j => i * j) (fun x y h _ => by cases h; exact .inl (by decide)) (ev_int (i := 8)) (ev_var (i := 2) (x := x4) rfl))) (ev_int (i := 255))) : EvX K WT [iM number_, iM size_, iM x4] _ _)))) : EvX K (W0 E) [iM number_, iM size_, none] _ _)
    exact blk_ret L trivial (by exact hr_)
noncomputable def m_to_big (number_ : Int) (size_ : Int) : Res (List Int) :=
  (m_to_little number_ size_).bind fun (t7 : (List Int)) => Res.ok (List.reverse t7)
theorem ok_to_big {P : Program} {w : World} {K : PySem.W.Frag} {mg : Str → Option Value} {base : Heap} (T : Facts P w K mg) {fd : FuncData} (F : FnP K "to_big" "to_big" s_to_big (He.ga K "to_big") fd) :
    FnOk P w K mg base (L2.CX P w) 2 (He.ga K "to_big") fd ["number", "size"] (spM K (fun (p : Int × Int × Unit) => m_to_big p.1 p.2.1)) := by
  obtain ⟨fd_to_little, F_to_little⟩ := T.d_to_little
  have G_to_little := ok_to_little (P := P) (w := w) (base := base) T F_to_little
  have b_to_little : Binds K fd_to_little ["number", "size"] [] := F_to_little.bindsN fun _ _ _ _ _ _ us hl => match us, hl with | [_, _], _ => rfl
  refine fn_ok F sc_to_big (fun y => rfl) (fun cdv A outer s H E hr => ?_)
  refine ⟨_, (pss_one (ps_ret (pe_revL (pe_callS G_to_little (hr.mono (by decide)) rfl T.g_to_little F_to_little.kp b_to_little (fun σ => passAt (takes_of rfl rfl rfl rfl) σ) (pa_cons (pv 0) (pa_cons (pv 1) pa_nil)))))), ?_⟩
  rintro ⟨number_, size_, ⟨⟩⟩ F0 H0 Q KP L
  show Blk K F0 H0 KP _ [iM number_, iM size_] (m_to_big number_ size_)
  unfold m_to_big
  have hr_ := ((ev_ofN (en_rev (ev_call (f := (fun (p : Int × Int × Unit) => m_to_little p.1 p.2.1)) (ea_cons (ev_var (i := 0) (x := number_) rfl) (ea_cons (ev_var (i := 1) (x := size_) rfl) ea_nil))))) : EvX K (W0 E) [iM number_, iM size_] _ _)
  exact blk_ret L trivial (by exact hr_)
noncomputable def m_from_big_l1 (k1 : Int → Res Int) : List Int → Int → Res Int
  | [], s => k1 s
  | x8 :: r1, number_ =>   (fun (byte_ : Int) => ((Res.need (CShl number_ (8 : Int)) (Res.ok (number_ * 2 ^ (8 : Int).toNat))).bind fun (t9 : Int) => Res.ok (Builtin.bitOr t9 byte_)).bind fun (number_ : Int) =>   m_from_big_l1 k1 r1 number_) x8
noncomputable def m_from_big_k2 : Int → Res Int := fun number_ =>   (Res.ok number_)
noncomputable def m_from_big (data_ : (List Int)) : Res Int :=
  ((Res.ok (0 : Int))).bind fun (number_ : Int) =>   ((Res.ok data_)).bind fun (xs10 : List Int) => m_from_big_l1 (m_from_big_k2) xs10 number_
theorem ok_from_big {P : Program} {w : World} {K : PySem.W.Frag} {mg : Str → Option Value} {base : Heap} (T : Facts P w K mg) {fd : FuncData} (F : FnP K "from_big" "from_big" s_from_big (He.ga K "from_big") fd) :
    FnOk P w K mg base (L2.CX P w) 1 (He.ga K "from_big") fd ["data"] (spM K (fun (p : (List Int) × Unit) => m_from_big p.1)) := by
  refine fn_ok F sc_from_big (fun y => rfl) (fun cdv A outer s H E hr => ?_)
  refine ⟨_, (pss_cons (ps_set (i := 1) sc_from_big.nd rfl (Or.inl rfl) pe_int) (pss_cons (ps_for (passes_of rfl) rfl (pi_list (pv 0)) (pg_name (i := 2) sc_from_big.nd rfl (Or.inl rfl)) (pss_one (ps_set (i := 1) sc_from_big.nd rfl (Or.inl rfl) (pe_op op_or (pe_op op_shlW (pv 1) pe_int) (pv 2))))) (pss_one (ps_ret (pv 1))))), ?_⟩
  rintro ⟨data_, ⟨⟩⟩ F0 H0 Q KP L
  show Blk K F0 H0 KP _ [iM data_, none, none] (m_from_big data_)
  unfold m_from_big
  have hs_ := ((ev_int (i := 0)) : EvX K (W0 E) [iM data_, none, none] _ _)
  refine blk_seq (blk_set (i := 1) L trivial (by exact hs_) fun number_ => ?_)
  show Blk _ _ _ _ _ [iM data_, iM number_, none] _
  try refine Blk.nx ?_
  have hi_ := ((ei_list (ev_var (i := 0) (x := data_) rfl)) : EvI K (W0 E) [iM data_, iM number_, none] _ _)
  refine blk_seq (blk_for (S := Int) (m_from_big_l1 (m_from_big_k2)) (m_from_big_k2) (fun number_ => [iM data_, iM number_, none]) number_ L trivial (by exact hi_) (fun _ => gx_name) (.same (.same (.same .nil))) (fun _ => rfl) ?_ ?_)
  · intro F1 L1 hB1 x8 r1 s_ N_ hN1
    revert s_; intro number_
    show Blk _ _ _ _ _ [iM data_, iM number_, iM x8] (m_from_big_l1 (m_from_big_k2) (x8 :: r1) number_)
    rw [m_from_big_l1]
    show Blk _ _ _ _ _ _ ((fun (byte_ : Int) => _) x8)
    generalize x8 = byte_
    show Blk _ _ _ _ _ [iM data_, iM number_, iM byte_] _
    have hs_ := ((ev_op (opx_I0 (g := Builtin.bitOr)) mild_ok (ev_op (opx_I (C := CShl) (g := fun i j => i * 2 ^ j.toNat)) mild_need (ev_var (i := 1) (x := number_) rfl) (ev_int (i := 8))) (ev_var (i := 2) (x := byte_) rfl)) : EvX K (W0 E) [iM data_, iM number_, iM byte_] _ _)
    refine blk_set (i := 1) L1 trivial (by exact hs_) fun number_ => ?_
    show Blk _ _ _ _ _ [iM data_, iM number_, iM byte_] _
    try refine Blk.nx ?_
    exact (hN1 number_).weak (.same (.same (.drop .nil)))
  · intro number_
    show Blk _ _ _ _ _ [iM data_, iM number_, none] ((m_from_big_k2) number_)
    unfold m_from_big_k2
    try refine Blk.nx ?_
    have hr_ := ((ev_var (i := 1) (x := number_) rfl) : EvX K (W0 E) [iM data_, iM number_, none] _ _)
    exact blk_ret L trivial (by exact hr_)
noncomputable def m_is_bytes (value_ : D) : Res Bool :=
  (Res.need ((toD value_).plain = true) (Res.ok (isI "list" (toD value_)))).bind fun b18 => cond b18 ((((((Res.ok value_)).bind D.asList).bind fun (xs14 : List D) => Res.need (xs14.length ≤ 16777216) (compL (fun (x11 : D) => Res.ok true) (fun (x11 : D) => ((m_is_whole x11).noexc).bind fun b13 => cond b13 ((((Res.ok x11)).bind D.asInt).bind fun (t12 : Int) => cond (decide ((0 : Int) ≤ t12)) (Res.ok (decide (t12 ≤ (255 : Int)))) (Res.ok false)) (Res.ok false)) xs14)).bind fun a15 => Res.ok (a15, ())).bind fun p17 => Res.ok ((p17.1).all id)) (Res.ok false)
theorem ok_is_bytes {P : Program} {w : World} {K : PySem.W.Frag} {mg : Str → Option Value} {base : Heap} (T : Facts P w K mg) {fd : FuncData} (F : FnP K "is_bytes" "is_bytes" s_is_bytes (He.ga K "is_bytes") fd) :
    FnOk P w K mg base (L2.CX P w) 2 (He.ga K "is_bytes") fd ["value"] (spM K (fun (p : D × Unit) => m_is_bytes p.1)) := by
  obtain ⟨fd_is_whole, F_is_whole⟩ := T.d_is_whole
  have G_is_whole := ok_is_whole (P := P) (w := w) (base := base) T F_is_whole
  have b_is_whole : Binds K fd_is_whole ["value"] [] := F_is_whole.bindsN fun _ _ _ _ _ _ us hl => match us, hl with | [_], _ => rfl
  refine fn_ok F sc_is_bytes (fun y => rfl) (fun cdv A outer s H E hr => ?_)
  refine ⟨_, (pss_one (ps_ret (pe_and (pe_callB call_isi (by rfl) T.n_isinstance (by decide +kernel) (pa_cons (pv 0) (pa_cons (pe_bltn (v := .ty "list") (by rfl) T.n_list (by decide +kernel) rfl) pa_nil))) (pe_one (pe_callB (cr_all rfl) (by rfl) T.n_all (by decide +kernel) (pa_cons (pe_lc (own := [("item", 1)]) rfl sc_is_bytes.nd (pi_list (pv 0)) (blkOk_by (own := [("item", 1)]) (N := ["value", "item"]) (sc := defScope s_is_bytes) (by decide +kernel)) (fun _ _ _ _ _ => (pg_name (i := 1) sc_is_bytes.nd rfl (Or.inl rfl))) (fun _ _ _ _ _ => pts_nil) (fun _ _ _ _ _ => (pe_and (pe_call G_is_whole (hr.mono (by decide)) rfl T.g_is_whole F_is_whole.kp b_is_whole .nil passL (pa_cons (pv 1) pa_nil)) (pe_one (pe_chain op_le op_le pe_int (pv 1) pe_int))))) pa_nil)))))), ?_⟩
  rintro ⟨value_, ⟨⟩⟩ F0 H0 Q KP L
  show Blk K F0 H0 KP _ [iM value_, none] (m_is_bytes value_)
  unfold m_is_bytes
  have hr_ := ((ev_andV (ev_isi isi_list (ev_var (i := 0) (x := value_) rfl)) (ev_cb cx_all (fun _ _ h => nomatch h) (ea_cons (ev_ofN (ev_comp (tst := fun (x11 : D) => Res.ok true) (el := fun (x11 : D) => ((m_is_whole x11).noexc).bind fun b13 => cond b13 ((((Res.ok x11)).bind D.asInt).bind fun (t12 : Int) => cond (decide ((0 : Int) ≤ t12)) (Res.ok (decide (t12 ≤ (255 : Int)))) (Res.ok false)) (Res.ok false)) (ws := [1]) (ei_list (ev_cast (f := D.asList) asList_ok asList_x (ev_var (i := 0) (x := value_) rfl))) (fun _ => gx_name) (fun x11 => et_yes) (fun x11 => ((ev_andV (ev_call0 (f := (fun (p : D × Unit) => m_is_whole p.1)) (ea_cons (ev_var (i := 1) (x := x11) rfl) ea_nil)) (ev_chain (opx_B0 (g := fun i j => decide (i ≤ j))) mild_ok (opx_B0 (g := fun i j => decide (i ≤ j))) mild_ok (ev_int (i := 0)) (ev_cast (f := D.asInt) asInt_ok asInt_x (ev_var (i := 1) (x := x11) rfl)) (ev_int (i := 255)))) : EvX K WT [iM value_, iM x11] _ _)))) ea_nil))) : EvX K (W0 E) [iM value_, none] _ _)
  exact blk_ret L trivial (by exact hr_)
noncomputable def m_write_length (size_ : Int) : Res (List Int) :=
  (cond (decide (size_ < (0 : Int))) (Res.ok true) ((Res.ok (decide ((65535 : Int) < size_))))).bind fun b => cond b   (Res.exc "OutOfRange")   (((Res.ok (decide (size_ < (128 : Int))))).bind fun b => cond b   ((Res.ok ([size_] : List Int)))   (((Res.ok (decide (size_ < (256 : Int))))).bind fun b => cond b   ((Res.ok ([(129 : Int), size_] : List Int)))   ((m_to_big size_ (2 : Int)).bind fun (t19 : (List Int)) => Res.need (([(130 : Int)] : List Int).length + t19.length ≤ 16777216) (Res.ok (([(130 : Int)] : List Int) ++ t19)))))
theorem ok_write_length {P : Program} {w : World} {K : PySem.W.Frag} {mg : Str → Option Value} {base : Heap} (T : Facts P w K mg) {fd : FuncData} (F : FnP K "write_length" "write_length" s_write_length (He.ga K "write_length") fd) :
    FnOk P w K mg base (L2.CX P w) 3 (He.ga K "write_length") fd ["size"] (spM K (fun (p : Int × Unit) => m_write_length p.1)) := by
  obtain ⟨fd_to_big, F_to_big⟩ := T.d_to_big
  have G_to_big := ok_to_big (P := P) (w := w) (base := base) T F_to_big
  have b_to_big : Binds K fd_to_big ["number", "size"] [] := F_to_big.bindsN fun _ _ _ _ _ _ us hl => match us, hl with | [_, _], _ => rfl
  refine fn_ok F sc_write_length (fun y => rfl) (fun cdv A outer s H E hr => ?_)
  refine ⟨_, (pss_cons (ps_if (PW.pt (pw_or (pt_cmpR op_lt (pv 0) pe_int (nomark _)) (pw_or1 (pt_cmpR op_gt (pv 0) (pe_glob (v := .int 65535) rfl T.c_LONGEST_CONTENT.choose_spec ⟨_, rfl⟩) (nomark _))))) (pss_one (ps_raise rfl (takes_of rfl rfl rfl rfl) (pmk_own PySem.F.excBase_ValueError T.x_OutOfRange T.g_OutOfRange T.k_OutOfRange (raises_own T.b_OutOfRange T.t_OutOfRange) rfl))) pss_nil) (pss_cons (ps_if (pt_cmpR op_lt (pv 0) pe_int (nomark _)) (pss_one (ps_ret (pe_lst (pa_cons (pv 0) pa_nil)))) pss_nil) (pss_cons (ps_if (pt_cmpR op_lt (pv 0) pe_int (nomark _)) (pss_one (ps_ret (pe_lst (pa_cons pe_int (pa_cons (pv 0) pa_nil))))) pss_nil) (pss_one (ps_ret (pe_op op_cat (pe_lst (pa_cons pe_int pa_nil)) (pe_callS G_to_big (hr.mono (by decide)) rfl T.g_to_big F_to_big.kp b_to_big (fun σ => passAt (takes_of rfl rfl rfl rfl) σ) (pa_cons (pv 0) (pa_cons pe_int pa_nil))))))))), ?_⟩
  rintro ⟨size_, ⟨⟩⟩ F0 H0 Q KP L
  show Blk K F0 H0 KP _ [iM size_] (m_write_length size_)
  unfold m_write_length
  have ht_ := ((et_or (et_test (ev_op (opx_B0 (g := fun i j => decide (i < j))) mild_ok (ev_var (i := 0) (x := size_) rfl) (ev_int (i := 0)))) (et_test (ev_op (opx_B0 (g := fun i j => decide (j < i))) mild_ok (ev_var (i := 0) (x := size_) rfl) (ev_int (i := 65535))))) : EvT K (W0 E) [iM size_] _ _)
  refine blk_seq (blk_if2 L trivial (by exact ht_) ?_ ?_)
  · exact blk_raise L trivial
  · refine blk_nil ?_
    try refine Blk.nx ?_
    have ht_ := ((et_test (ev_op (opx_B0 (g := fun i j => decide (i < j))) mild_ok (ev_var (i := 0) (x := size_) rfl) (ev_int (i := 128)))) : EvT K (W0 E) [iM size_] _ _)
    refine blk_seq (blk_if2 L trivial (by exact ht_) ?_ ?_)
    · have hr_ := ((ev_ofN (en_lst (f := (fun y => ([y.1] : List Int))) (ea_cons (ev_var (i := 0) (x := size_) rfl) ea_nil) (fun _ => rfl) (fun _ => by show 1 ≤ 100000; decide))) : EvX K (W0 E) [iM size_] _ _)
      exact blk_ret L trivial (by exact hr_)
    · refine blk_nil ?_
      try refine Blk.nx ?_
      have ht_ := ((et_test (ev_op (opx_B0 (g := fun i j => decide (i < j))) mild_ok (ev_var (i := 0) (x := size_) rfl) (ev_int (i := 256)))) : EvT K (W0 E) [iM size_] _ _)
      refine blk_seq (blk_if2 L trivial (by exact ht_) ?_ ?_)
      · have hr_ := ((ev_ofN (en_lst (f := (fun y => ([y.1, y.2.1] : List Int))) (ea_cons (ev_int (i := 129)) (ea_cons (ev_var (i := 0) (x := size_) rfl) ea_nil)) (fun _ => rfl) (fun _ => by show 2 ≤ 100000; decide))) : EvX K (W0 E) [iM size_] _ _)
        exact blk_ret L trivial (by exact hr_)
      · refine blk_nil ?_
        try refine Blk.nx ?_
        have hr_ := ((ev_ofN (en_cat (ev_ofN (en_lst (f := (fun y => ([y.1] : List Int))) (ea_cons (ev_int (i := 130)) ea_nil) (fun _ => rfl) (fun _ => by show 1 ≤ 100000; decide))) (ev_call (f := (fun (p : Int × Int × Unit) => m_to_big p.1 p.2.1)) (ea_cons (ev_var (i := 0) (x := size_) rfl) (ea_cons (ev_int (i := 2)) ea_nil))))) : EvX K (W0 E) [iM size_] _ _)
        exact blk_ret L trivial (by exact hr_)
noncomputable def m_read_length_k2 (data_ : (List Int)) (at_ : Int) : Int × Int → Res (T2 Int Int) := fun (behind_, size_) =>   (((Res.ok (some at_)).bind fun (lo23 : Option Int) => (Res.ok (some behind_)).bind fun (hi24 : Option Int) => Res.ok (cutL data_ lo23 hi24)).bind fun (t25 : (List Int)) => (m_write_length size_).bind fun (t26 : (List Int)) => Res.need ((toD t25).okq = true ∧ (toD t26).okq = true) (Res.ok (!pyEq (toD t25) (toD t26)))).bind fun b => cond b   (Res.exc "Malformed")   ((Res.ok (T2.mk size_ behind_)))
noncomputable def m_read_length (data_ : (List Int)) (at_ : Int) : Res (T2 Int Int) :=
  ((Res.ok (some at_)).bind fun (lo20 : Option Int) => (Res.ok (some (at_ + (1 : Int)))).bind fun (hi21 : Option Int) => Res.ok (cutL data_ lo20 hi21)).bind fun (first_ : (List Int)) =>   ((Res.ok (decide (((first_).length : Int) = (0 : Int))))).bind fun b => cond b   (Res.exc "Malformed")   (((Res.ok (at_ + (1 : Int)))).bind fun (behind_ : Int) =>   (idx first_ (0 : Int)).bind fun (size_ : Int) =>   ((Res.ok (decide (size_ ∈ (((fun (x : (T2 Int Int)) => Tu.mk [x.a, x.b]) (T2.mk (129 : Int) (130 : Int)))).xs)))).bind fun b => cond b   (((Res.ok (size_ - (128 : Int)))).bind fun (y32 : Int) => (fun (behind_ : Int) => ((((Res.ok (some (at_ + (1 : Int)))).bind fun (lo27 : Option Int) => (Res.ok (some behind_)).bind fun (hi28 : Option Int) => Res.ok (cutL data_ lo27 hi28)).bind fun a29 => Res.ok (a29, ())).bind fun p31 => m_from_big p31.1).bind fun (size_ : Int) =>   (m_read_length_k2 data_ at_) (behind_, size_)) (behind_ + y32))   ((m_read_length_k2 data_ at_) (behind_, size_)))
theorem ok_read_length {P : Program} {w : World} {K : PySem.W.Frag} {mg : Str → Option Value} {base : Heap} (T : Facts P w K mg) {fd : FuncData} (F : FnP K "read_length" "read_length" s_read_length (He.ga K "read_length") fd) :
    FnOk P w K mg base (L2.CX P w) 4 (He.ga K "read_length") fd ["data", "at"] (spM K (fun (p : (List Int) × Int × Unit) => m_read_length p.1 p.2.1)) := by
  obtain ⟨fd_from_big, F_from_big⟩ := T.d_from_big
  have G_from_big := ok_from_big (P := P) (w := w) (base := base) T F_from_big
  have b_from_big : Binds K fd_from_big ["data"] [] := F_from_big.bindsN fun _ _ _ _ _ _ us hl => match us, hl with | [_], _ => rfl
  obtain ⟨fd_write_length, F_write_length⟩ := T.d_write_length
  have G_write_length := ok_write_length (P := P) (w := w) (base := base) T F_write_length
  have b_write_length : Binds K fd_write_length ["size"] [] := F_write_length.bindsN fun _ _ _ _ _ _ us hl => match us, hl with | [_], _ => rfl
  refine fn_ok F sc_read_length (fun y => rfl) (fun cdv A outer s H E hr => ?_)
  refine ⟨_, (pss_cons (ps_set (i := 2) sc_read_length.nd rfl (Or.inl rfl) (pe_slice (cr_slL rfl) (pv 0) (po_some (pv 1)) (po_some (pe_op op_add (pv 1) pe_int)))) (pss_cons (ps_if (pt_cmpR op_eq (pe_callB (cr_len rfl) (by rfl) T.n_len (by decide +kernel) (pa_cons (pv 2) pa_nil)) pe_int (nomark _)) (pss_one (ps_raise rfl (takes_of rfl rfl rfl rfl) (pmk_own PySem.F.excBase_ValueError T.x_Malformed T.g_Malformed T.k_Malformed (raises_own T.b_Malformed T.t_Malformed) rfl))) pss_nil) (pss_cons (ps_set (i := 3) sc_read_length.nd rfl (Or.inl rfl) (pe_op op_add (pv 1) pe_int)) (pss_cons (ps_set (i := 4) sc_read_length.nd rfl (Or.inl rfl) (pe_ix (cr_ixL rfl) (pv 2) pe_int (fun _ _ => rfl))) (pss_cons (ps_if (pt_cmpR op_in_seq (pv 4) (pe_tup (pa_cons pe_int (pa_cons pe_int pa_nil))) rfl) (pss_cons (ps_aug (i := 3) sc_read_length.nd rfl (Or.inl rfl) (pe_op op_sub (pv 4) pe_int) ip_add) (pss_one (ps_set (i := 4) sc_read_length.nd rfl (Or.inl rfl) (pe_callS G_from_big (hr.mono (by decide)) rfl T.g_from_big F_from_big.kp b_from_big (fun σ => passAt (takes_of rfl rfl rfl rfl) σ) (pa_cons (pe_slice (cr_slL rfl) (pv 0) (po_some (pe_op op_add (pv 1) pe_int)) (po_some (pv 3))) pa_nil))))) pss_nil) (pss_cons (ps_if (pt_cmpR (op_neD (Room.units hr)) (pe_slice (cr_slL rfl) (pv 0) (po_some (pv 1)) (po_some (pv 3))) (pe_callS G_write_length (hr.mono (by decide)) rfl T.g_write_length F_write_length.kp b_write_length (fun σ => passAt (takes_of rfl rfl rfl rfl) σ) (pa_cons (pv 4) pa_nil)) (nomark _)) (pss_one (ps_raise rfl (takes_of rfl rfl rfl rfl) (pmk_own PySem.F.excBase_ValueError T.x_Malformed T.g_Malformed T.k_Malformed (raises_own T.b_Malformed T.t_Malformed) rfl))) pss_nil) (pss_one (ps_ret (pe_tup (pa_cons (pv 4) (pa_cons (pv 3) pa_nil))))))))))), ?_⟩
  rintro ⟨data_, at_, ⟨⟩⟩ F0 H0 Q KP L
  show Blk K F0 H0 KP _ [iM data_, iM at_, none, none, none] (m_read_length data_ at_)
  unfold m_read_length
  have hs_ := ((ev_ofN (en_sliceV (ev_var (i := 0) (x := data_) rfl) (ept_some (ev_var (i := 1) (x := at_) rfl)) (ept_some (ev_op (opx_I0 (g := fun i j => i + j)) mild_ok (ev_var (i := 1) (x := at_) rfl) (ev_int (i := 1)))))) : EvX K (W0 E) [iM data_, iM at_, none, none, none] _ _)
  refine blk_seq (blk_set (i := 2) L trivial (by exact hs_) fun first_ => ?_)
  show Blk _ _ _ _ _ [iM data_, iM at_, iM first_, none, none] _
  try refine Blk.nx ?_
  have ht_ := ((et_test (ev_op opx_eqI mild_ok (ev_cb cx_len (fun _ _ h => nomatch h) (ea_cons (ev_var (i := 2) (x := first_) rfl) ea_nil)) (ev_int (i := 0)))) : EvT K (W0 E) [iM data_, iM at_, iM first_, none, none] _ _)
  refine blk_seq (blk_if2 L trivial (by exact ht_) ?_ ?_)
  · exact blk_raise L trivial
  · refine blk_nil ?_
    try refine Blk.nx ?_
    have hs_ := ((ev_op (opx_I0 (g := fun i j => i + j)) mild_ok (ev_var (i := 1) (x := at_) rfl) (ev_int (i := 1))) : EvX K (W0 E) [iM data_, iM at_, iM first_, none, none] _ _)
    refine blk_seq (blk_set (i := 3) L trivial (by exact hs_) fun behind_ => ?_)
    show Blk _ _ _ _ _ [iM data_, iM at_, iM first_, iM behind_, none] _
    try refine Blk.nx ?_
    have hs_ := ((ev_op opx_ixL (fun x y => idx_mild x y) (ev_var (i := 2) (x := first_) rfl) (ev_int (i := 0))) : EvX K (W0 E) [iM data_, iM at_, iM first_, iM behind_, none] _ _)
    refine blk_seq (blk_set (i := 4) L trivial (by exact hs_) fun size_ => ?_)
    show Blk _ _ _ _ _ [iM data_, iM at_, iM first_, iM behind_, iM size_] _
    try refine Blk.nx ?_
    have ht_ := ((et_test (ev_op (opx_inI false) mild_ok (ev_var (i := 4) (x := size_) rfl) (ev_as (ev_tup (f := (fun (y : Int × Int × Unit) => T2.mk y.1 y.2.1)) (ea_cons (ev_int (i := 129)) (ea_cons (ev_int (i := 130)) ea_nil)) (fun _ => rfl) (fun _ => by show 2 ≤ 100000; decide)) (fun (x : (T2 Int Int)) => Tu.mk [x.a, x.b]) (fun _ => rfl) rfl))) : EvT K (W0 E) [iM data_, iM at_, iM first_, iM behind_, iM size_] _ _)
    refine blk_seq (blk_ifj (S := Int × Int) (fun (behind_, size_) => [iM data_, iM at_, iM first_, iM behind_, iM size_]) (m_read_length_k2 data_ at_) L trivial (by exact ht_) ?_ ?_ ?_)
    · rintro ⟨behind_, size_⟩
      show Blk _ _ _ _ _ [iM data_, iM at_, iM first_, iM behind_, iM size_] ((m_read_length_k2 data_ at_) (behind_, size_))
      unfold m_read_length_k2
      try refine Blk.nx ?_
      have ht_ := ((et_test (ev_op opx_neD mild_need (ev_ofN (en_sliceV (ev_var (i := 0) (x := data_) rfl) (ept_some (ev_var (i := 1) (x := at_) rfl)) (ept_some (ev_var (i := 3) (x := behind_) rfl)))) (ev_call (f := (fun (p : Int × Unit) => m_write_length p.1)) (ea_cons (ev_var (i := 4) (x := size_) rfl) ea_nil)))) : EvT K (W0 E) [iM data_, iM at_, iM first_, iM behind_, iM size_] _ _)
      refine blk_seq (blk_if2 L trivial (by exact ht_) ?_ ?_)
      · exact blk_raise L trivial
      · refine blk_nil ?_
        try refine Blk.nx ?_
        have hr_ := ((ev_tup (f := (fun (y : Int × Int × Unit) => T2.mk y.1 y.2.1)) (ea_cons (ev_var (i := 4) (x := size_) rfl) (ea_cons (ev_var (i := 3) (x := behind_) rfl) ea_nil)) (fun _ => rfl) (fun _ => by show 2 ≤ 100000; decide)) : EvX K (W0 E) [iM data_, iM at_, iM first_, iM behind_, iM size_] _ _)
        exact blk_ret L trivial (by exact hr_)
    · intro hk2
      have hs_ := ((ev_op (opx_I0 (g := fun i j => i - j)) mild_ok (ev_var (i := 4) (x := size_) rfl) (ev_int (i := 128))) : EvX K (W0 E) [iM data_, iM at_, iM first_, iM behind_, iM size_] _ _)
      refine blk_seq (blk_aug (i := 3) (x := behind_) (g := fun i j => i + j) L trivial rfl (by exact hs_) fun y33 => ?_)
      show Blk _ _ _ _ _ [iM data_, iM at_, iM first_, iM ((behind_ + y33)), iM size_] ((fun (behind_ : Int) => _) (behind_ + y33))
      generalize behind_ + y33 = behind_
      show Blk _ _ _ _ _ [iM data_, iM at_, iM first_, iM behind_, iM size_] _
      try refine Blk.nx ?_
      have hs_ := ((ev_call (f := (fun (p : (List Int) × Unit) => m_from_big p.1)) (ea_cons (ev_ofN (en_sliceV (ev_var (i := 0) (x := data_) rfl) (ept_some (ev_op (opx_I0 (g := fun i j => i + j)) mild_ok (ev_var (i := 1) (x := at_) rfl) (ev_int (i := 1)))) (ept_some (ev_var (i := 3) (x := behind_) rfl)))) ea_nil)) : EvX K (W0 E) [iM data_, iM at_, iM first_, iM behind_, iM size_] _ _)
      refine blk_set (i := 4) L trivial (by exact hs_) fun size_ => ?_
      show Blk _ _ _ _ _ [iM data_, iM at_, iM first_, iM behind_, iM size_] _
      try refine Blk.nx ?_
      exact (hk2 (behind_, size_)).weak (.same (.same (.same (.same (.same .nil)))))
    · intro hk2
      refine blk_nil ?_
      try refine Blk.nx ?_
      exact (hk2 (behind_, size_)).weak (.same (.same (.same (.same (.same .nil)))))
noncomputable def m_u_part (tag_ : Int) (content_ : (List Int)) : Res (List Int) :=
  ((m_write_length ((content_).length : Int)).bind fun (t34 : (List Int)) => Res.need (([tag_] : List Int).length + t34.length ≤ 16777216) (Res.ok (([tag_] : List Int) ++ t34))).bind fun (t35 : (List Int)) => Res.need (t35.length + content_.length ≤ 16777216) (Res.ok (t35 ++ content_))
theorem ok_u_part {P : Program} {w : World} {K : PySem.W.Frag} {mg : Str → Option Value} {base : Heap} (T : Facts P w K mg) {fd : FuncData} (F : FnP K "_part" "_part" s_u_part (He.ga K "_part") fd) :
    FnOk P w K mg base (L2.CX P w) 4 (He.ga K "_part") fd ["tag", "content"] (spM K (fun (p : Int × (List Int) × Unit) => m_u_part p.1 p.2.1)) := by
  obtain ⟨fd_write_length, F_write_length⟩ := T.d_write_length
  have G_write_length := ok_write_length (P := P) (w := w) (base := base) T F_write_length
  have b_write_length : Binds K fd_write_length ["size"] [] := F_write_length.bindsN fun _ _ _ _ _ _ us hl => match us, hl with | [_], _ => rfl
  refine fn_ok F sc_u_part (fun y => rfl) (fun cdv A outer s H E hr => ?_)
  refine ⟨_, (pss_one (ps_ret (pe_op op_cat (pe_op op_cat (pe_lst (pa_cons (pv 0) pa_nil)) (pe_callS G_write_length (hr.mono (by decide)) rfl T.g_write_length F_write_length.kp b_write_length (fun σ => passAt (takes_of rfl rfl rfl rfl) σ) (pa_cons (pe_callB (cr_len rfl) (by rfl) T.n_len (by decide +kernel) (pa_cons (pv 1) pa_nil)) pa_nil))) (pv 1)))), ?_⟩
  rintro ⟨tag_, content_, ⟨⟩⟩ F0 H0 Q KP L
  show Blk K F0 H0 KP _ [iM tag_, iM content_] (m_u_part tag_ content_)
  unfold m_u_part
  have hr_ := ((ev_ofN (en_cat (ev_ofN (en_cat (ev_ofN (en_lst (f := (fun y => ([y.1] : List Int))) (ea_cons (ev_var (i := 0) (x := tag_) rfl) ea_nil) (fun _ => rfl) (fun _ => by show 1 ≤ 100000; decide))) (ev_call (f := (fun (p : Int × Unit) => m_write_length p.1)) (ea_cons (ev_cb cx_len (fun _ _ h => nomatch h) (ea_cons (ev_var (i := 1) (x := content_) rfl) ea_nil)) ea_nil)))) (ev_var (i := 1) (x := content_) rfl))) : EvX K (W0 E) [iM tag_, iM content_] _ _)
  exact blk_ret L trivial (by exact hr_)
noncomputable def m_u_number_content (number_ : Int) : Res (List Int) :=
  m_to_big number_ ((((Builtin.Int.intBits number_ : Nat) : Int) / (8 : Int)) + (1 : Int))
theorem ok_u_number_content {P : Program} {w : World} {K : PySem.W.Frag} {mg : Str → Option Value} {base : Heap} (T : Facts P w K mg) {fd : FuncData} (F : FnP K "_number_content" "_number_content" s_u_number_content (He.ga K "_number_content") fd) :
    FnOk P w K mg base (L2.CX P w) 3 (He.ga K "_number_content") fd ["number"] (spM K (fun (p : Int × Unit) => m_u_number_content p.1)) := by
  obtain ⟨fd_to_big, F_to_big⟩ := T.d_to_big
  have G_to_big := ok_to_big (P := P) (w := w) (base := base) T F_to_big
  have b_to_big : Binds K fd_to_big ["number", "size"] [] := F_to_big.bindsN fun _ _ _ _ _ _ us hl => match us, hl with | [_, _], _ => rfl
  refine fn_ok F sc_u_number_content (fun y => rfl) (fun cdv A outer s H E hr => ?_)
  refine ⟨_, (pss_one (ps_ret (pe_callS G_to_big (hr.mono (by decide)) rfl T.g_to_big F_to_big.kp b_to_big (fun σ => passAt (takes_of rfl rfl rfl rfl) σ) (pa_cons (pv 0) (pa_cons (pe_op op_add (pe_op op_fdiv (pe_bits (pv 0)) pe_int) pe_int) pa_nil))))), ?_⟩
  rintro ⟨number_, ⟨⟩⟩ F0 H0 Q KP L
  show Blk K F0 H0 KP _ [iM number_] (m_u_number_content number_)
  unfold m_u_number_content
  have hr_ := ((ev_call (f := (fun (p : Int × Int × Unit) => m_to_big p.1 p.2.1)) (ea_cons (ev_var (i := 0) (x := number_) rfl) (ea_cons (ev_op (opx_I0 (g := fun i j => i + j)) mild_ok (ev_opI (C := CDiv) (g := fun i j => i / j) (fun x y _ h => by cases h; exact ⟨by decide, by decide⟩) (ev_bits (ev_var (i := 0) (x := number_) rfl)) (ev_int (i := 8))) (ev_int (i := 1))) ea_nil))) : EvX K (W0 E) [iM number_] _ _)
  exact blk_ret L trivial (by exact hr_)
noncomputable def m_write_number (number_ : Int) : Res (List Int) :=
  (cond (decide (number_ < (0 : Int))) (Res.ok true) ((Res.ok (decide ((520 : Int) < ((Builtin.Int.intBits number_ : Nat) : Int)))))).bind fun b => cond b   (Res.exc "OutOfRange")   ((((m_u_number_content number_).bind fun a36 => Res.ok (a36, ())).bind fun a39 => Res.ok ((2 : Int), a39)).bind fun p40 => m_u_part p40.1 p40.2.1)
theorem ok_write_number {P : Program} {w : World} {K : PySem.W.Frag} {mg : Str → Option Value} {base : Heap} (T : Facts P w K mg) {fd : FuncData} (F : FnP K "write_number" "write_number" s_write_number (He.ga K "write_number") fd) :
    FnOk P w K mg base (L2.CX P w) 5 (He.ga K "write_number") fd ["number"] (spM K (fun (p : Int × Unit) => m_write_number p.1)) := by
  obtain ⟨fd_u_number_content, F_u_number_content⟩ := T.d_u_number_content
  have G_u_number_content := ok_u_number_content (P := P) (w := w) (base := base) T F_u_number_content
  have b_u_number_content : Binds K fd_u_number_content ["number"] [] := F_u_number_content.bindsN fun _ _ _ _ _ _ us hl => match us, hl with | [_], _ => rfl
  obtain ⟨fd_u_part, F_u_part⟩ := T.d_u_part
  have G_u_part := ok_u_part (P := P) (w := w) (base := base) T F_u_part
  have b_u_part : Binds K fd_u_part ["tag", "content"] [] := F_u_part.bindsN fun _ _ _ _ _ _ us hl => match us, hl with | [_, _], _ => rfl
  refine fn_ok F sc_write_number (fun y => rfl) (fun cdv A outer s H E hr => ?_)
  refine ⟨_, (pss_cons (ps_if (PW.pt (pw_or (pt_cmpR op_lt (pv 0) pe_int (nomark _)) (pw_or1 (pt_cmpR op_gt (pe_bits (pv 0)) (pe_glob (v := .int 520) rfl T.c_MOST_BITS.choose_spec ⟨_, rfl⟩) (nomark _))))) (pss_one (ps_raise rfl (takes_of rfl rfl rfl rfl) (pmk_own PySem.F.excBase_ValueError T.x_OutOfRange T.g_OutOfRange T.k_OutOfRange (raises_own T.b_OutOfRange T.t_OutOfRange) rfl))) pss_nil) (pss_one (ps_ret (pe_callS G_u_part (hr.mono (by decide)) rfl T.g_u_part F_u_part.kp b_u_part (fun σ => passAt (takes_of rfl rfl rfl rfl) σ) (pa_cons (pe_glob (v := .int 2) rfl T.c_NUMBER_TAG.choose_spec ⟨_, rfl⟩) (pa_cons (pe_callS G_u_number_content (hr.mono (by decide)) rfl T.g_u_number_content F_u_number_content.kp b_u_number_content (fun σ => passAt (takes_of rfl rfl rfl rfl) σ) (pa_cons (pv 0) pa_nil)) pa_nil)))))), ?_⟩
  rintro ⟨number_, ⟨⟩⟩ F0 H0 Q KP L
  show Blk K F0 H0 KP _ [iM number_] (m_write_number number_)
  unfold m_write_number
  have ht_ := ((et_or (et_test (ev_op (opx_B0 (g := fun i j => decide (i < j))) mild_ok (ev_var (i := 0) (x := number_) rfl) (ev_int (i := 0)))) (et_test (ev_op (opx_B0 (g := fun i j => decide (j < i))) mild_ok (ev_bits (ev_var (i := 0) (x := number_) rfl)) (ev_int (i := 520))))) : EvT K (W0 E) [iM number_] _ _)
  refine blk_seq (blk_if2 L trivial (by exact ht_) ?_ ?_)
  · exact blk_raise L trivial
  · refine blk_nil ?_
    try refine Blk.nx ?_
    have hr_ := ((ev_call (f := (fun (p : Int × (List Int) × Unit) => m_u_part p.1 p.2.1)) (ea_cons (ev_int (i := 2)) (ea_cons (ev_call (f := (fun (p : Int × Unit) => m_u_number_content p.1)) (ea_cons (ev_var (i := 0) (x := number_) rfl) ea_nil)) ea_nil))) : EvX K (W0 E) [iM number_] _ _)
    exact blk_ret L trivial (by exact hr_)
noncomputable def m_u_tree_part_b (rec_ : D → Res (List Int)) (value_ : D) : Res (List Int) :=
  ((Res.need ((toD value_).plain = true) (Res.ok (isI "tuple" (toD value_)))).bind fun (t41 : Bool) => Res.ok (!t41)).bind fun b => cond b   (((((Res.ok value_)).bind D.asInt).bind fun a42 => Res.ok (a42, ())).bind fun p44 => m_write_number p44.1)   ((((((((Res.ok value_)).bind D.asTu).bind fun (t45 : (Tu D)) => Res.ok (t45).xs).bind fun (xs48 : List D) => compL2G (fun (x46 : D) => rec_ x46) (fun (x46 : D) (y47 : Int) => y47) xs48 []).bind fun a49 => Res.ok (a49, ())).bind fun a52 => Res.ok ((48 : Int), a52)).bind fun p53 => m_u_part p53.1 p53.2.1)
noncomputable def m_u_tree_part : Nat → D → Res (List Int)
  | 0, _ => Res.stuck
  | n_ + 1, value_ => m_u_tree_part_b (m_u_tree_part n_) value_
theorem ok_u_tree_part {P : Program} {w : World} {K : PySem.W.Frag} {mg : Str → Option Value} {base : Heap} (T : Facts P w K mg) {fd : FuncData} (F : FnP K "_tree_part" "_tree_part" s_u_tree_part (He.ga K "_tree_part") fd) : ∀ n_ : Nat,
    FnOk P w K mg base (L2.CX P w) (5 + n_) (He.ga K "_tree_part") fd ["value"] (spM K (fun (p : D × Unit) => m_u_tree_part n_ p.1)) := by
  obtain ⟨fd_u_part, F_u_part⟩ := T.d_u_part
  have G_u_part := ok_u_part (P := P) (w := w) (base := base) T F_u_part
  have b_u_part : Binds K fd_u_part ["tag", "content"] [] := F_u_part.bindsN fun _ _ _ _ _ _ us hl => match us, hl with | [_, _], _ => rfl
  obtain ⟨fd_write_number, F_write_number⟩ := T.d_write_number
  have G_write_number := ok_write_number (P := P) (w := w) (base := base) T F_write_number
  have b_write_number : Binds K fd_write_number ["number"] [] := F_write_number.bindsN fun _ _ _ _ _ _ us hl => match us, hl with | [_], _ => rfl
  have b_u_tree_part : Binds K fd ["value"] [] := F.bindsN fun _ _ _ _ _ _ us hl => match us, hl with | [_], _ => rfl
  have F_u_tree_part := F
  intro n_
  induction n_ with
  | zero => exact fnok_stuck _ (fun _ => rfl)
  | succ n_ G_u_tree_part =>
  refine fn_ok (k := 5 + n_) F sc_u_tree_part (fun y => rfl) (fun cdv A outer s H E hr => ?_)
  refine ⟨_, (pss_cons (ps_if (pt_not (pt_val (pe_callB call_isi (by rfl) T.n_isinstance (by decide +kernel) (pa_cons (pv 0) (pa_cons (pe_bltn (v := .ty "tuple") (by rfl) T.n_tuple (by decide +kernel) rfl) pa_nil))))) (pss_one (ps_ret (pe_callS G_write_number (hr.mono (by omega)) rfl T.g_write_number F_write_number.kp b_write_number (fun σ => passAt (takes_of rfl rfl rfl rfl) σ) (pa_cons (pv 0) pa_nil)))) pss_nil) (pss_one (ps_ret (pe_callS G_u_part (hr.mono (by omega)) rfl T.g_u_part F_u_part.kp b_u_part (fun σ => passAt (takes_of rfl rfl rfl rfl) σ) (pa_cons (pe_glob (v := .int 48) rfl T.c_SEQUENCE_TAG.choose_spec ⟨_, rfl⟩) (pa_cons (pe_lc2E (own := [("item", 1), ("byte", 2)]) (vs1 := [2]) rfl rfl (takes_of rfl rfl rfl rfl) rfl sc_u_tree_part.nd (pi_tup (pv 0)) (blkOk_by (own := [("item", 1), ("byte", 2)]) (N := ["value", "item", "byte"]) (sc := defScope s_u_tree_part) (by decide +kernel)) (fun _ _ _ _ _ => (pg_name (i := 1) sc_u_tree_part.nd rfl (Or.inl rfl))) (fun _ _ _ _ _ => pts_nil) (by decide) (fun _ _ _ _ _ px_ => (pi_listK rfl (pe_callS G_u_tree_part (hr.mono (by omega)) rfl T.g_u_tree_part F_u_tree_part.kp b_u_tree_part px_ (pa_cons (pv 1) pa_nil)))) (fun _ _ _ _ _ => (pg_name (i := 2) sc_u_tree_part.nd rfl (Or.inl rfl))) (fun _ _ _ _ _ => pts_nil) (fun _ _ _ _ _ => (pv 2))) pa_nil)))))), ?_⟩
  rintro ⟨value_, ⟨⟩⟩ F0 H0 Q KP L
  show Blk K F0 H0 KP _ [iM value_, none, none] (m_u_tree_part_b (m_u_tree_part n_) value_)
  unfold m_u_tree_part_b
  have ht_ := ((et_not (et_B (ev_isi isi_tuple (ev_var (i := 0) (x := value_) rfl)))) : EvT K (W0 E) [iM value_, none, none] _ _)
  refine blk_seq (blk_if2 L trivial (by exact ht_) ?_ ?_)
  · have hr_ := ((ev_call (f := (fun (p : Int × Unit) => m_write_number p.1)) (ea_cons (ev_cast (f := D.asInt) asInt_ok asInt_x (ev_var (i := 0) (x := value_) rfl)) ea_nil)) : EvX K (W0 E) [iM value_, none, none] _ _)
    exact blk_ret L trivial (by exact hr_)
  · refine blk_nil ?_
    try refine Blk.nx ?_
    have hr_ := ((ev_call (f := (fun (p : Int × (List Int) × Unit) => m_u_part p.1 p.2.1)) (ea_cons (ev_int (i := 48)) (ea_cons (ev_ofN (ev_comp2E (it := fun (x46 : D) => (m_u_tree_part n_) x46) (el := fun (x46 : D) (y47 : Int) => y47) (ws := [1, 2]) (ws1 := [2]) (ei_tup (ev_cast (f := D.asTu) asTu_ok asTu_x (ev_var (i := 0) (x := value_) rfl))) (fun _ => gx_weak (ws0 := [1]) gx_name (by decide)) (fun x46 => ((ei_list (ev_call (f := (fun (p : D × Unit) => (m_u_tree_part n_) p.1)) (ea_cons (ev_var (i := 1) (x := x46) rfl) ea_nil))) : EvI K (W0 E) [iM value_, iM x46, none] _ _)) (fun _ _ => gx_name) (fun x46 y47 => ((ev_var (i := 2) (x := y47) rfl) : EvX K WT [iM value_, iM x46, iM y47] _ _)) (fun _ => (own_stE own_unset)))) ea_nil))) : EvX K (W0 E) [iM value_, none, none] _ _)
    exact blk_ret L trivial (by exact hr_)
noncomputable def m_u_levels_b (rec_ : D → Res Int) (value_ : D) : Res Int :=
  ((Res.need ((toD value_).plain = true) (Res.ok (isI "tuple" (toD value_)))).bind fun (t54 : Bool) => Res.ok (!t54)).bind fun b => cond b   ((Res.ok (0 : Int)))   ((((((((Res.ok value_)).bind D.asTu).bind fun (t55 : (Tu D)) => Res.ok (t55).xs).bind fun (xs57 : List D) => Res.need (xs57.length ≤ 16777216) (compL (fun (x56 : D) => Res.ok true) (fun (x56 : D) => (rec_ x56).noexc) xs57)).bind fun a58 => Res.ok (a58, ())).bind fun p60 => Res.ok (lmax0 p60.1 (0 : Int))).bind fun (t61 : Int) => Res.ok ((1 : Int) + t61))
noncomputable def m_u_levels : Nat → D → Res Int
  | 0, _ => Res.stuck
  | n_ + 1, value_ => m_u_levels_b (m_u_levels n_) value_
theorem ok_u_levels {P : Program} {w : World} {K : PySem.W.Frag} {mg : Str → Option Value} {base : Heap} (T : Facts P w K mg) {fd : FuncData} (F : FnP K "_levels" "_levels" s_u_levels (He.ga K "_levels") fd) : ∀ n_ : Nat,
    FnOk P w K mg base (L2.CX P w) (0 + n_) (He.ga K "_levels") fd ["value"] (spM K (fun (p : D × Unit) => m_u_levels n_ p.1)) := by
  have b_u_levels : Binds K fd ["value"] [] := F.bindsN fun _ _ _ _ _ _ us hl => match us, hl with | [_], _ => rfl
  have F_u_levels := F
  intro n_
  induction n_ with
  | zero => exact fnok_stuck _ (fun _ => rfl)
  | succ n_ G_u_levels =>
  refine fn_ok (k := 0 + n_) F sc_u_levels (fun y => rfl) (fun cdv A outer s H E hr => ?_)
  refine ⟨_, (pss_cons (ps_if (pt_not (pt_val (pe_callB call_isi (by rfl) T.n_isinstance (by decide +kernel) (pa_cons (pv 0) (pa_cons (pe_bltn (v := .ty "tuple") (by rfl) T.n_tuple (by decide +kernel) rfl) pa_nil))))) (pss_one (ps_ret pe_int)) pss_nil) (pss_one (ps_ret (pe_op op_add pe_int (pe_maxD rfl (Room.units hr) (by rfl) T.n_max (pa_cons (pe_lc (own := [("item", 1)]) rfl sc_u_levels.nd (pi_tup (pv 0)) (blkOk_by (own := [("item", 1)]) (N := ["value", "item"]) (sc := defScope s_u_levels) (by decide +kernel)) (fun _ _ _ _ _ => (pg_name (i := 1) sc_u_levels.nd rfl (Or.inl rfl))) (fun _ _ _ _ _ => pts_nil) (fun _ _ _ _ _ => (pe_call G_u_levels (hr.mono (by omega)) rfl T.g_u_levels F_u_levels.kp b_u_levels .nil passL (pa_cons (pv 1) pa_nil)))) pa_nil) (pk_cons pe_int pk_nil)))))), ?_⟩
  rintro ⟨value_, ⟨⟩⟩ F0 H0 Q KP L
  show Blk K F0 H0 KP _ [iM value_, none] (m_u_levels_b (m_u_levels n_) value_)
  unfold m_u_levels_b
  have ht_ := ((et_not (et_B (ev_isi isi_tuple (ev_var (i := 0) (x := value_) rfl)))) : EvT K (W0 E) [iM value_, none] _ _)
  refine blk_seq (blk_if2 L trivial (by exact ht_) ?_ ?_)
  · have hr_ := ((ev_int (i := 0)) : EvX K (W0 E) [iM value_, none] _ _)
    exact blk_ret L trivial (by exact hr_)
  · refine blk_nil ?_
    try refine Blk.nx ?_
    have hr_ := ((ev_op (opx_I0 (g := fun i j => i + j)) mild_ok (ev_int (i := 1)) (ev_maxD (ea_cons (ev_ofN (ev_comp (tst := fun (x56 : D) => Res.ok true) (el := fun (x56 : D) => ((m_u_levels n_) x56).noexc) (ws := [1]) (ei_tup (ev_cast (f := D.asTu) asTu_ok asTu_x (ev_var (i := 0) (x := value_) rfl))) (fun _ => gx_name) (fun x56 => et_yes) (fun x56 => ((ev_call0 (f := (fun (p : D × Unit) => (m_u_levels n_) p.1)) (ea_cons (ev_var (i := 1) (x := x56) rfl) ea_nil)) : EvX K WT [iM value_, iM x56] _ _)))) ea_nil) (ea_cons (ev_int (i := 0)) ea_nil))) : EvX K (W0 E) [iM value_, none] _ _)
    exact blk_ret L trivial (by exact hr_)
noncomputable def m_u_part_count_b (rec_ : D → Res Int) (value_ : D) : Res Int :=
  ((Res.need ((toD value_).plain = true) (Res.ok (isI "tuple" (toD value_)))).bind fun (t62 : Bool) => Res.ok (!t62)).bind fun b => cond b   ((Res.ok (1 : Int)))   ((((((((Res.ok value_)).bind D.asTu).bind fun (t63 : (Tu D)) => Res.ok (t63).xs).bind fun (xs65 : List D) => Res.need (xs65.length ≤ 16777216) (compL (fun (x64 : D) => Res.ok true) (fun (x64 : D) => (rec_ x64).noexc) xs65)).bind fun a66 => Res.ok (a66, ())).bind fun p68 => Res.ok (p68.1).sum).bind fun (t69 : Int) => Res.ok ((1 : Int) + t69))
noncomputable def m_u_part_count : Nat → D → Res Int
  | 0, _ => Res.stuck
  | n_ + 1, value_ => m_u_part_count_b (m_u_part_count n_) value_
theorem ok_u_part_count {P : Program} {w : World} {K : PySem.W.Frag} {mg : Str → Option Value} {base : Heap} (T : Facts P w K mg) {fd : FuncData} (F : FnP K "_part_count" "_part_count" s_u_part_count (He.ga K "_part_count") fd) : ∀ n_ : Nat,
    FnOk P w K mg base (L2.CX P w) (0 + n_) (He.ga K "_part_count") fd ["value"] (spM K (fun (p : D × Unit) => m_u_part_count n_ p.1)) := by
  have b_u_part_count : Binds K fd ["value"] [] := F.bindsN fun _ _ _ _ _ _ us hl => match us, hl with | [_], _ => rfl
  have F_u_part_count := F
  intro n_
  induction n_ with
  | zero => exact fnok_stuck _ (fun _ => rfl)
  | succ n_ G_u_part_count =>
  refine fn_ok (k := 0 + n_) F sc_u_part_count (fun y => rfl) (fun cdv A outer s H E hr => ?_)
  refine ⟨_, (pss_cons (ps_if (pt_not (pt_val (pe_callB call_isi (by rfl) T.n_isinstance (by decide +kernel) (pa_cons (pv 0) (pa_cons (pe_bltn (v := .ty "tuple") (by rfl) T.n_tuple (by decide +kernel) rfl) pa_nil))))) (pss_one (ps_ret pe_int)) pss_nil) (pss_one (ps_ret (pe_op op_add pe_int (pe_callB (cr_sum rfl) (by rfl) T.n_sum (by decide +kernel) (pa_cons (pe_lc (own := [("item", 1)]) rfl sc_u_part_count.nd (pi_tup (pv 0)) (blkOk_by (own := [("item", 1)]) (N := ["value", "item"]) (sc := defScope s_u_part_count) (by decide +kernel)) (fun _ _ _ _ _ => (pg_name (i := 1) sc_u_part_count.nd rfl (Or.inl rfl))) (fun _ _ _ _ _ => pts_nil) (fun _ _ _ _ _ => (pe_call G_u_part_count (hr.mono (by omega)) rfl T.g_u_part_count F_u_part_count.kp b_u_part_count .nil passL (pa_cons (pv 1) pa_nil)))) pa_nil)))))), ?_⟩
  rintro ⟨value_, ⟨⟩⟩ F0 H0 Q KP L
  show Blk K F0 H0 KP _ [iM value_, none] (m_u_part_count_b (m_u_part_count n_) value_)
  unfold m_u_part_count_b
  have ht_ := ((et_not (et_B (ev_isi isi_tuple (ev_var (i := 0) (x := value_) rfl)))) : EvT K (W0 E) [iM value_, none] _ _)
  refine blk_seq (blk_if2 L trivial (by exact ht_) ?_ ?_)
  · have hr_ := ((ev_int (i := 1)) : EvX K (W0 E) [iM value_, none] _ _)
    exact blk_ret L trivial (by exact hr_)
  · refine blk_nil ?_
    try refine Blk.nx ?_
    have hr_ := ((ev_op (opx_I0 (g := fun i j => i + j)) mild_ok (ev_int (i := 1)) (ev_cb cx_sum (fun _ _ h => nomatch h) (ea_cons (ev_ofN (ev_comp (tst := fun (x64 : D) => Res.ok true) (el := fun (x64 : D) => ((m_u_part_count n_) x64).noexc) (ws := [1]) (ei_tup (ev_cast (f := D.asTu) asTu_ok asTu_x (ev_var (i := 0) (x := value_) rfl))) (fun _ => gx_name) (fun x64 => et_yes) (fun x64 => ((ev_call0 (f := (fun (p : D × Unit) => (m_u_part_count n_) p.1)) (ea_cons (ev_var (i := 1) (x := x64) rfl) ea_nil)) : EvX K WT [iM value_, iM x64] _ _)))) ea_nil))) : EvX K (W0 E) [iM value_, none] _ _)
    exact blk_ret L trivial (by exact hr_)
noncomputable def m_write_tree (value_ : D) : Res (List Int) :=
  (((m_u_levels 12 value_).bind fun (t70 : Int) => Res.ok (decide ((8 : Int) < t70))).bind fun b72 => cond b72 (Res.ok true) ((m_u_part_count 12 value_).bind fun (t71 : Int) => Res.ok (decide ((64 : Int) < t71)))).bind fun b => cond b   (Res.exc "OutOfRange")   (m_u_tree_part 12 value_)
theorem ok_write_tree {P : Program} {w : World} {K : PySem.W.Frag} {mg : Str → Option Value} {base : Heap} (T : Facts P w K mg) {fd : FuncData} (F : FnP K "write_tree" "write_tree" s_write_tree (He.ga K "write_tree") fd) :
    FnOk P w K mg base (L2.CX P w) 18 (He.ga K "write_tree") fd ["value"] (spM K (fun (p : D × Unit) => m_write_tree p.1)) := by
  obtain ⟨fd_u_levels, F_u_levels⟩ := T.d_u_levels
  have G_u_levels := ok_u_levels (P := P) (w := w) (base := base) T F_u_levels 12
  have b_u_levels : Binds K fd_u_levels ["value"] [] := F_u_levels.bindsN fun _ _ _ _ _ _ us hl => match us, hl with | [_], _ => rfl
  obtain ⟨fd_u_part_count, F_u_part_count⟩ := T.d_u_part_count
  have G_u_part_count := ok_u_part_count (P := P) (w := w) (base := base) T F_u_part_count 12
  have b_u_part_count : Binds K fd_u_part_count ["value"] [] := F_u_part_count.bindsN fun _ _ _ _ _ _ us hl => match us, hl with | [_], _ => rfl
  obtain ⟨fd_u_tree_part, F_u_tree_part⟩ := T.d_u_tree_part
  have G_u_tree_part := ok_u_tree_part (P := P) (w := w) (base := base) T F_u_tree_part 12
  have b_u_tree_part : Binds K fd_u_tree_part ["value"] [] := F_u_tree_part.bindsN fun _ _ _ _ _ _ us hl => match us, hl with | [_], _ => rfl
  refine fn_ok F sc_write_tree (fun y => rfl) (fun cdv A outer s H E hr => ?_)
  refine ⟨_, (pss_cons (ps_if (PW.pt (pw_or (pt_cmpR op_gt (pe_callS G_u_levels (hr.mono (by decide)) rfl T.g_u_levels F_u_levels.kp b_u_levels (fun σ => passAt (takes_of rfl rfl rfl rfl) σ) (pa_cons (pv 0) pa_nil)) (pe_glob (v := .int 8) rfl T.c_MOST_LEVELS.choose_spec ⟨_, rfl⟩) (nomark _)) (pw_or1 (pt_cmpR op_gt (pe_callS G_u_part_count (hr.mono (by decide)) rfl T.g_u_part_count F_u_part_count.kp b_u_part_count (fun σ => passAt (takes_of rfl rfl rfl rfl) σ) (pa_cons (pv 0) pa_nil)) (pe_glob (v := .int 64) rfl T.c_MOST_PARTS.choose_spec ⟨_, rfl⟩) (nomark _))))) (pss_one (ps_raise rfl (takes_of rfl rfl rfl rfl) (pmk_own PySem.F.excBase_ValueError T.x_OutOfRange T.g_OutOfRange T.k_OutOfRange (raises_own T.b_OutOfRange T.t_OutOfRange) rfl))) pss_nil) (pss_one (ps_ret (pe_callS G_u_tree_part (hr.mono (by decide)) rfl T.g_u_tree_part F_u_tree_part.kp b_u_tree_part (fun σ => passAt (takes_of rfl rfl rfl rfl) σ) (pa_cons (pv 0) pa_nil))))), ?_⟩
  rintro ⟨value_, ⟨⟩⟩ F0 H0 Q KP L
  show Blk K F0 H0 KP _ [iM value_] (m_write_tree value_)
  unfold m_write_tree
  have ht_ := ((et_or (et_test (ev_op (opx_B0 (g := fun i j => decide (j < i))) mild_ok (ev_call (f := (fun (p : D × Unit) => m_u_levels 12 p.1)) (ea_cons (ev_var (i := 0) (x := value_) rfl) ea_nil)) (ev_int (i := 8)))) (et_test (ev_op (opx_B0 (g := fun i j => decide (j < i))) mild_ok (ev_call (f := (fun (p : D × Unit) => m_u_part_count 12 p.1)) (ea_cons (ev_var (i := 0) (x := value_) rfl) ea_nil)) (ev_int (i := 64))))) : EvT K (W0 E) [iM value_] _ _)
  refine blk_seq (blk_if2 L trivial (by exact ht_) ?_ ?_)
  · exact blk_raise L trivial
  · refine blk_nil ?_
    try refine Blk.nx ?_
    have hr_ := ((ev_call (f := (fun (p : D × Unit) => m_u_tree_part 12 p.1)) (ea_cons (ev_var (i := 0) (x := value_) rfl) ea_nil)) : EvX K (W0 E) [iM value_] _ _)
    exact blk_ret L trivial (by exact hr_)
noncomputable def m_write_pair (first_ : Int) (second_ : Int) : Res (List Int) :=
  m_write_tree (toD (T2.mk first_ second_))
theorem ok_write_pair {P : Program} {w : World} {K : PySem.W.Frag} {mg : Str → Option Value} {base : Heap} (T : Facts P w K mg) {fd : FuncData} (F : FnP K "write_pair" "write_pair" s_write_pair (He.ga K "write_pair") fd) :
    FnOk P w K mg base (L2.CX P w) 19 (He.ga K "write_pair") fd ["first", "second"] (spM K (fun (p : Int × Int × Unit) => m_write_pair p.1 p.2.1)) := by
  obtain ⟨fd_write_tree, F_write_tree⟩ := T.d_write_tree
  have G_write_tree := ok_write_tree (P := P) (w := w) (base := base) T F_write_tree
  have b_write_tree : Binds K fd_write_tree ["value"] [] := F_write_tree.bindsN fun _ _ _ _ _ _ us hl => match us, hl with | [_], _ => rfl
  refine fn_ok F sc_write_pair (fun y => rfl) (fun cdv A outer s H E hr => ?_)
  refine ⟨_, (pss_one (ps_ret (pe_callS G_write_tree (hr.mono (by decide)) rfl T.g_write_tree F_write_tree.kp b_write_tree (fun σ => passAt (takes_of rfl rfl rfl rfl) σ) (pa_cons (pe_tup (pa_cons (pv 0) (pa_cons (pv 1) pa_nil))) pa_nil)))), ?_⟩
  rintro ⟨first_, second_, ⟨⟩⟩ F0 H0 Q KP L
  show Blk K F0 H0 KP _ [iM first_, iM second_] (m_write_pair first_ second_)
  unfold m_write_pair
  have hr_ := ((ev_call (f := (fun (p : D × Unit) => m_write_tree p.1)) (ea_cons (ev_as (ev_tup (f := (fun (y : Int × Int × Unit) => T2.mk y.1 y.2.1)) (ea_cons (ev_var (i := 0) (x := first_) rfl) (ea_cons (ev_var (i := 1) (x := second_) rfl) ea_nil)) (fun _ => rfl) (fun _ => by show 2 ≤ 100000; decide)) toD (fun _ => rfl) rfl) ea_nil)) : EvX K (W0 E) [iM first_, iM second_] _ _)
  exact blk_ret L trivial (by exact hr_)
noncomputable def m_u_split_parts_w1 (data_ : (List Int)) (k1 : (List (T2 Int (List Int))) × Int → Res (List (T2 Int (List Int)))) : Nat → (List (T2 Int (List Int))) × Int → Res (List (T2 Int (List Int)))
  | 0, _ => Res.stuck
  | n1 + 1, (parts_, at_) => ((Res.ok (decide (at_ < ((data_).length : Int))))).bind fun b => cond b   ((m_read_length data_ (at_ + (1 : Int))).bind fun (u73 : (T2 Int Int)) =>   (fun (size_ : Int) (start_ : Int) => ((Res.ok (start_ + size_))).bind fun (behind_ : Int) =>   ((Res.ok (decide (((data_).length : Int) < behind_)))).bind fun b => cond b   (Res.exc "Malformed")   ((((idx data_ at_).bind fun a78 => (((Res.ok (some start_)).bind fun (lo74 : Option Int) => (Res.ok (some behind_)).bind fun (hi75 : Option Int) => Res.ok (cutL data_ lo74 hi75)).bind fun a76 => Res.ok (a76, ())).bind fun a79 => Res.ok (a78, a79)).bind fun p80 => Res.ok (T2.mk p80.1 p80.2.1)).bind fun (y81 : (T2 Int (List Int))) => Res.need (parts_.length < 16777216) ((fun (parts_ : (List (T2 Int (List Int)))) =>   ((Res.ok behind_)).bind fun (at_ : Int) =>   m_u_split_parts_w1 data_ k1 n1 (parts_, at_)) (parts_ ++ [y81])))) u73.a u73.b)   (k1 (parts_, at_))
noncomputable def m_u_split_parts_k3 : (List (T2 Int (List Int))) × Int → Res (List (T2 Int (List Int))) := fun (parts_, at_) =>   (Res.ok parts_)
noncomputable def m_u_split_parts (data_ : (List Int)) : Res (List (T2 Int (List Int))) :=
  ((Res.ok ([] : List (T2 Int (List Int))))).bind fun (parts_ : (List (T2 Int (List Int)))) =>   ((Res.ok (0 : Int))).bind fun (at_ : Int) =>   m_u_split_parts_w1 data_ (m_u_split_parts_k3) (data_.length + 1) (parts_, at_)
theorem ok_u_split_parts {P : Program} {w : World} {K : PySem.W.Frag} {mg : Str → Option Value} {base : Heap} (T : Facts P w K mg) {fd : FuncData} (F : FnP K "_split_parts" "_split_parts" s_u_split_parts (He.ga K "_split_parts") fd) :
    FnOk P w K mg base (L2.CX P w) 5 (He.ga K "_split_parts") fd ["data"] (spM K (fun (p : (List Int) × Unit) => m_u_split_parts p.1)) := by
  obtain ⟨fd_read_length, F_read_length⟩ := T.d_read_length
  have G_read_length := ok_read_length (P := P) (w := w) (base := base) T F_read_length
  have b_read_length : Binds K fd_read_length ["data", "at"] [] := F_read_length.bindsN fun _ _ _ _ _ _ us hl => match us, hl with | [_, _], _ => rfl
  refine fn_ok F sc_u_split_parts (fun y => rfl) (fun cdv A outer s H E hr => ?_)
  refine ⟨_, (pss_cons (ps_set (i := 1) sc_u_split_parts.nd rfl (Or.inl rfl) (pe_lst pa_nil)) (pss_cons (ps_set (i := 2) sc_u_split_parts.nd rfl (Or.inl rfl) pe_int) (pss_cons (ps_while (passes_of rfl) (pt_cmpR op_lt (pv 2) (pe_callB (cr_len rfl) (by rfl) T.n_len (by decide +kernel) (pa_cons (pv 0) pa_nil)) (nomark _)) (pss_cons (ps_asg (pe_callS G_read_length (hr.mono (by decide)) rfl T.g_read_length F_read_length.kp b_read_length (fun σ => passAt (takes_of rfl rfl rfl rfl) σ) (pa_cons (pv 0) (pa_cons (pe_op op_add (pv 2) pe_int) pa_nil))) (pg_tup rfl (pgs_cons (pg_name (i := 3) sc_u_split_parts.nd rfl (Or.inl rfl)) (pgs_cons (pg_name (i := 4) sc_u_split_parts.nd rfl (Or.inl rfl)) pgs_nil)))) (pss_cons (ps_set (i := 5) sc_u_split_parts.nd rfl (Or.inl rfl) (pe_op op_add (pv 4) (pv 3))) (pss_cons (ps_if (pt_cmpR op_gt (pv 5) (pe_callB (cr_len rfl) (by rfl) T.n_len (by decide +kernel) (pa_cons (pv 0) pa_nil)) (nomark _)) (pss_one (ps_raise rfl (takes_of rfl rfl rfl rfl) (pmk_own PySem.F.excBase_ValueError T.x_Malformed T.g_Malformed T.k_Malformed (raises_own T.b_Malformed T.t_Malformed) rfl))) pss_nil) (pss_cons (ps_expr (pe_bm PySem.F.plainAttrs_list PySem.F.slot_list_append PySem.F.type_list_append mt_append (pv 1) (pa_cons (pe_tup (pa_cons (pe_ix (cr_ixL rfl) (pv 0) (pv 2) (fun _ _ => rfl)) (pa_cons (pe_slice (cr_slL rfl) (pv 0) (po_some (pv 4)) (po_some (pv 5))) pa_nil))) pa_nil))) (pss_one (ps_set (i := 2) sc_u_split_parts.nd rfl (Or.inl rfl) (pv 5)))))))) (pss_one (ps_ret (pv 1)))))), ?_⟩
  rintro ⟨data_, ⟨⟩⟩ F0 H0 Q KP L
  show Blk K F0 H0 KP _ [iM data_, none, none, none, none, none] (m_u_split_parts data_)
  unfold m_u_split_parts
  have hs_ := ((en_lst (f := (fun y => ([] : List (T2 Int (List Int))))) ea_nil (fun _ => rfl) (fun _ => by show 0 ≤ 100000; decide)) : EvN K (W0 E) [iM data_, none, none, none, none, none] _ _)
  refine blk_seq (blk_own (i := 1) L trivial (by exact hs_) fun parts_ => ?_)
  show Blk _ _ _ _ _ [iM data_, oW parts_, none, none, none, none] _
  try refine Blk.nx ?_
  have hs_ := ((ev_int (i := 0)) : EvX K (W0 E) [iM data_, oW parts_, none, none, none, none] _ _)
  refine blk_seq (blk_set (i := 2) L trivial (by exact hs_) fun at_ => ?_)
  show Blk _ _ _ _ _ [iM data_, oW parts_, iM at_, none, none, none] _
  try refine Blk.nx ?_
  refine blk_seq (blk_while (S := (List (T2 Int (List Int))) × Int) (m_u_split_parts_w1 data_ (m_u_split_parts_k3)) (fun (s : (List (T2 Int (List Int))) × Int) => match s with | (parts_, at_) => (Res.ok (decide (at_ < ((data_).length : Int))))) (fun n s => match s with | (parts_, at_) => (m_read_length data_ (at_ + (1 : Int))).bind fun (u73 : (T2 Int Int)) =>   (fun (size_ : Int) (start_ : Int) => ((Res.ok (start_ + size_))).bind fun (behind_ : Int) =>   ((Res.ok (decide (((data_).length : Int) < behind_)))).bind fun b => cond b   (Res.exc "Malformed")   ((((idx data_ at_).bind fun a78 => (((Res.ok (some start_)).bind fun (lo74 : Option Int) => (Res.ok (some behind_)).bind fun (hi75 : Option Int) => Res.ok (cutL data_ lo74 hi75)).bind fun a76 => Res.ok (a76, ())).bind fun a79 => Res.ok (a78, a79)).bind fun p80 => Res.ok (T2.mk p80.1 p80.2.1)).bind fun (y81 : (T2 Int (List Int))) => Res.need (parts_.length < 16777216) ((fun (parts_ : (List (T2 Int (List Int)))) =>   ((Res.ok behind_)).bind fun (at_ : Int) =>   m_u_split_parts_w1 data_ (m_u_split_parts_k3) n (parts_, at_)) (parts_ ++ [y81])))) u73.a u73.b) (m_u_split_parts_k3) (fun (parts_, at_) => [iM data_, oW parts_, iM at_, none, none, none]) (parts_, at_) (data_.length + 1) L ?_ (.same (.same (.same (.same (.same (.same .nil)))))) ?_ (fun ⟨_, _⟩ => rfl) (fun _ ⟨_, _⟩ => rfl) ?_ ?_)
  · rintro ⟨parts_, at_⟩
    exact trivial
  · rintro ⟨parts_, at_⟩
    exact ((et_test (ev_op (opx_B0 (g := fun i j => decide (i < j))) mild_ok (ev_var (i := 2) (x := at_) rfl) (ev_cb cx_len (fun _ _ h => nomatch h) (ea_cons (ev_var (i := 0) (x := data_) rfl) ea_nil)))) : EvT K (W0 E) [iM data_, oW parts_, iM at_, none, none, none] _ _)
  · intro n1 s_ N_ hN1
    obtain ⟨parts_, at_⟩ := s_
    show Blk _ _ _ _ _ [iM data_, oW parts_, iM at_, none, none, none] _
    have hs_ := ((ev_call (f := (fun (p : (List Int) × Int × Unit) => m_read_length p.1 p.2.1)) (ea_cons (ev_var (i := 0) (x := data_) rfl) (ea_cons (ev_op (opx_I0 (g := fun i j => i + j)) mild_ok (ev_var (i := 2) (x := at_) rfl) (ev_int (i := 1))) ea_nil))) : EvX K (W0 E) [iM data_, oW parts_, iM at_, none, none, none] _ _)
    refine blk_seq (blk_asg L trivial (by exact hs_) (fun _ => (gx_tup (n := 2) (gxs_cons gx_name (gxs_cons gx_name gxs_nil)) rfl)) fun u73 => ?_)
    show Blk _ _ _ _ _ [iM data_, oW parts_, iM at_, iM u73.a, iM u73.b, none] ((fun (size_ : Int) (start_ : Int) => _) u73.a u73.b)
    generalize u73.a = size_
    generalize u73.b = start_
    show Blk _ _ _ _ _ [iM data_, oW parts_, iM at_, iM size_, iM start_, none] _
    try refine Blk.nx ?_
    have hs_ := ((ev_op (opx_I0 (g := fun i j => i + j)) mild_ok (ev_var (i := 4) (x := start_) rfl) (ev_var (i := 3) (x := size_) rfl)) : EvX K (W0 E) [iM data_, oW parts_, iM at_, iM size_, iM start_, none] _ _)
    refine blk_seq (blk_set (i := 5) L trivial (by exact hs_) fun behind_ => ?_)
    show Blk _ _ _ _ _ [iM data_, oW parts_, iM at_, iM size_, iM start_, iM behind_] _
    try refine Blk.nx ?_
    have ht_ := ((et_test (ev_op (opx_B0 (g := fun i j => decide (j < i))) mild_ok (ev_var (i := 5) (x := behind_) rfl) (ev_cb cx_len (fun _ _ h => nomatch h) (ea_cons (ev_var (i := 0) (x := data_) rfl) ea_nil)))) : EvT K (W0 E) [iM data_, oW parts_, iM at_, iM size_, iM start_, iM behind_] _ _)
    refine blk_seq (blk_if2 L trivial (by exact ht_) ?_ ?_)
    · exact blk_raise L trivial
    · refine blk_nil ?_
      try refine Blk.nx ?_
      have hs_ := ((ev_tup (f := (fun (y : Int × (List Int) × Unit) => T2.mk y.1 y.2.1)) (ea_cons (ev_op opx_ixL (fun x y => idx_mild x y) (ev_var (i := 0) (x := data_) rfl) (ev_var (i := 2) (x := at_) rfl)) (ea_cons (ev_ofN (en_sliceV (ev_var (i := 0) (x := data_) rfl) (ept_some (ev_var (i := 4) (x := start_) rfl)) (ept_some (ev_var (i := 5) (x := behind_) rfl)))) ea_nil)) (fun _ => rfl) (fun _ => by show 2 ≤ 100000; decide)) : EvX K (W0 E) [iM data_, oW parts_, iM at_, iM size_, iM start_, iM behind_] _ _)
      refine blk_seq (blk_app (i := 1) (xs := parts_) L trivial rfl (by exact hs_) fun y82 => ?_)
      show Blk _ _ _ _ _ [iM data_, oW ((parts_ ++ [y82])), iM at_, iM size_, iM start_, iM behind_] ((fun (parts_ : (List (T2 Int (List Int)))) => _) (parts_ ++ [y82]))
      generalize parts_ ++ [y82] = parts_
      show Blk _ _ _ _ _ [iM data_, oW parts_, iM at_, iM size_, iM start_, iM behind_] _
      try refine Blk.nx ?_
      have hs_ := ((ev_var (i := 5) (x := behind_) rfl) : EvX K (W0 E) [iM data_, oW parts_, iM at_, iM size_, iM start_, iM behind_] _ _)
      refine blk_set (i := 2) L trivial (by exact hs_) fun at_ => ?_
      show Blk _ _ _ _ _ [iM data_, oW parts_, iM at_, iM size_, iM start_, iM behind_] _
      try refine Blk.nx ?_
      exact (hN1 (parts_, at_)).weak (.same (.same (.same (.drop (.drop (.drop .nil))))))
  · rintro ⟨parts_, at_⟩
    show Blk _ _ _ _ _ [iM data_, oW parts_, iM at_, none, none, none] ((m_u_split_parts_k3) (parts_, at_))
    unfold m_u_split_parts_k3
    try refine Blk.nx ?_
    refine blk_freeze 1 rfl ?_
    show Blk _ _ _ _ _ [iM data_, iM parts_, iM at_, none, none, none] _
    have hr_ := ((ev_var (i := 1) (x := parts_) rfl) : EvX K (W0 E) [iM data_, iM parts_, iM at_, none, none, none] _ _)
    exact blk_ret L trivial (by exact hr_)
noncomputable def m_u_only_part (data_ : D) : Res (T2 Int (List Int)) :=
  ((m_is_bytes data_).bind fun (t83 : Bool) => Res.ok (!t83)).bind fun b => cond b   (Res.exc "Malformed")   ((((((Res.ok data_)).bind D.asInts).bind fun a84 => Res.ok (a84, ())).bind fun p86 => m_u_split_parts p86.1).bind fun (parts_ : (List (T2 Int (List Int)))) =>   ((Res.ok (!decide (((parts_).length : Int) = (1 : Int))))).bind fun b => cond b   (Res.exc "Malformed")   (idx parts_ (0 : Int)))
theorem ok_u_only_part {P : Program} {w : World} {K : PySem.W.Frag} {mg : Str → Option Value} {base : Heap} (T : Facts P w K mg) {fd : FuncData} (F : FnP K "_only_part" "_only_part" s_u_only_part (He.ga K "_only_part") fd) :
    FnOk P w K mg base (L2.CX P w) 6 (He.ga K "_only_part") fd ["data"] (spM K (fun (p : D × Unit) => m_u_only_part p.1)) := by
  obtain ⟨fd_u_split_parts, F_u_split_parts⟩ := T.d_u_split_parts
  have G_u_split_parts := ok_u_split_parts (P := P) (w := w) (base := base) T F_u_split_parts
  have b_u_split_parts : Binds K fd_u_split_parts ["data"] [] := F_u_split_parts.bindsN fun _ _ _ _ _ _ us hl => match us, hl with | [_], _ => rfl
  obtain ⟨fd_is_bytes, F_is_bytes⟩ := T.d_is_bytes
  have G_is_bytes := ok_is_bytes (P := P) (w := w) (base := base) T F_is_bytes
  have b_is_bytes : Binds K fd_is_bytes ["value"] [] := F_is_bytes.bindsN fun _ _ _ _ _ _ us hl => match us, hl with | [_], _ => rfl
  refine fn_ok F sc_u_only_part (fun y => rfl) (fun cdv A outer s H E hr => ?_)
  refine ⟨_, (pss_cons (ps_if (pt_not (pt_val (pe_callS G_is_bytes (hr.mono (by decide)) rfl T.g_is_bytes F_is_bytes.kp b_is_bytes (fun σ => passAt (takes_of rfl rfl rfl rfl) σ) (pa_cons (pv 0) pa_nil)))) (pss_one (ps_raise rfl (takes_of rfl rfl rfl rfl) (pmk_own PySem.F.excBase_ValueError T.x_Malformed T.g_Malformed T.k_Malformed (raises_own T.b_Malformed T.t_Malformed) rfl))) pss_nil) (pss_cons (ps_set (i := 1) sc_u_only_part.nd rfl (Or.inl rfl) (pe_callS G_u_split_parts (hr.mono (by decide)) rfl T.g_u_split_parts F_u_split_parts.kp b_u_split_parts (fun σ => passAt (takes_of rfl rfl rfl rfl) σ) (pa_cons (pv 0) pa_nil))) (pss_cons (ps_if (pt_cmpR op_ne (pe_callB (cr_len rfl) (by rfl) T.n_len (by decide +kernel) (pa_cons (pv 1) pa_nil)) pe_int (nomark _)) (pss_one (ps_raise rfl (takes_of rfl rfl rfl rfl) (pmk_own PySem.F.excBase_ValueError T.x_Malformed T.g_Malformed T.k_Malformed (raises_own T.b_Malformed T.t_Malformed) rfl))) pss_nil) (pss_one (ps_ret (pe_ix (cr_ixL rfl) (pv 1) pe_int (fun _ _ => rfl))))))), ?_⟩
  rintro ⟨data_, ⟨⟩⟩ F0 H0 Q KP L
  show Blk K F0 H0 KP _ [iM data_, none] (m_u_only_part data_)
  unfold m_u_only_part
  have ht_ := ((et_not (et_B (ev_call (f := (fun (p : D × Unit) => m_is_bytes p.1)) (ea_cons (ev_var (i := 0) (x := data_) rfl) ea_nil)))) : EvT K (W0 E) [iM data_, none] _ _)
  refine blk_seq (blk_if2 L trivial (by exact ht_) ?_ ?_)
  · exact blk_raise L trivial
  · refine blk_nil ?_
    try refine Blk.nx ?_
    have hs_ := ((ev_call (f := (fun (p : (List Int) × Unit) => m_u_split_parts p.1)) (ea_cons (ev_cast (f := D.asInts) asInts_ok asInts_x (ev_var (i := 0) (x := data_) rfl)) ea_nil)) : EvX K (W0 E) [iM data_, none] _ _)
    refine blk_seq (blk_set (i := 1) L trivial (by exact hs_) fun parts_ => ?_)
    show Blk _ _ _ _ _ [iM data_, iM parts_] _
    try refine Blk.nx ?_
    have ht_ := ((et_test (ev_op opx_neI mild_ok (ev_cb cx_len (fun _ _ h => nomatch h) (ea_cons (ev_var (i := 1) (x := parts_) rfl) ea_nil)) (ev_int (i := 1)))) : EvT K (W0 E) [iM data_, iM parts_] _ _)
    refine blk_seq (blk_if2 L trivial (by exact ht_) ?_ ?_)
    · exact blk_raise L trivial
    · refine blk_nil ?_
      try refine Blk.nx ?_
      have hr_ := ((ev_op opx_ixL (fun x y => idx_mild x y) (ev_var (i := 1) (x := parts_) rfl) (ev_int (i := 0))) : EvX K (W0 E) [iM data_, iM parts_] _ _)
      exact blk_ret L trivial (by exact hr_)
noncomputable def m_u_number (content_ : (List Int)) : Res Int :=
  ((Res.ok (decide ((66 : Int) < ((content_).length : Int))))).bind fun b => cond b   (Res.exc "Malformed")   ((m_from_big content_).bind fun (number_ : Int) =>   (cond (decide ((520 : Int) < ((Builtin.Int.intBits number_ : Nat) : Int))) (Res.ok true) ((m_u_number_content number_).bind fun (t87 : (List Int)) => Res.need ((toD t87).okq = true ∧ (toD content_).okq = true) (Res.ok (!pyEq (toD t87) (toD content_))))).bind fun b => cond b   (Res.exc "Malformed")   ((Res.ok number_)))
theorem ok_u_number {P : Program} {w : World} {K : PySem.W.Frag} {mg : Str → Option Value} {base : Heap} (T : Facts P w K mg) {fd : FuncData} (F : FnP K "_number" "_number" s_u_number (He.ga K "_number") fd) :
    FnOk P w K mg base (L2.CX P w) 4 (He.ga K "_number") fd ["content"] (spM K (fun (p : (List Int) × Unit) => m_u_number p.1)) := by
  obtain ⟨fd_u_number_content, F_u_number_content⟩ := T.d_u_number_content
  have G_u_number_content := ok_u_number_content (P := P) (w := w) (base := base) T F_u_number_content
  have b_u_number_content : Binds K fd_u_number_content ["number"] [] := F_u_number_content.bindsN fun _ _ _ _ _ _ us hl => match us, hl with | [_], _ => rfl
  obtain ⟨fd_from_big, F_from_big⟩ := T.d_from_big
  have G_from_big := ok_from_big (P := P) (w := w) (base := base) T F_from_big
  have b_from_big : Binds K fd_from_big ["data"] [] := F_from_big.bindsN fun _ _ _ _ _ _ us hl => match us, hl with | [_], _ => rfl
  refine fn_ok F sc_u_number (fun y => rfl) (fun cdv A outer s H E hr => ?_)
  refine ⟨_, (pss_cons (ps_if (pt_cmpR op_gt (pe_callB (cr_len rfl) (by rfl) T.n_len (by decide +kernel) (pa_cons (pv 0) pa_nil)) (pe_glob (v := .int 66) rfl T.c_LONGEST_NUMBER.choose_spec ⟨_, rfl⟩) (nomark _)) (pss_one (ps_raise rfl (takes_of rfl rfl rfl rfl) (pmk_own PySem.F.excBase_ValueError T.x_Malformed T.g_Malformed T.k_Malformed (raises_own T.b_Malformed T.t_Malformed) rfl))) pss_nil) (pss_cons (ps_set (i := 1) sc_u_number.nd rfl (Or.inl rfl) (pe_callS G_from_big (hr.mono (by decide)) rfl T.g_from_big F_from_big.kp b_from_big (fun σ => passAt (takes_of rfl rfl rfl rfl) σ) (pa_cons (pv 0) pa_nil))) (pss_cons (ps_if (PW.pt (pw_or (pt_cmpR op_gt (pe_bits (pv 1)) (pe_glob (v := .int 520) rfl T.c_MOST_BITS.choose_spec ⟨_, rfl⟩) (nomark _)) (pw_or1 (pt_cmpR (op_neD (Room.units hr)) (pe_callS G_u_number_content (hr.mono (by decide)) rfl T.g_u_number_content F_u_number_content.kp b_u_number_content (fun σ => passAt (takes_of rfl rfl rfl rfl) σ) (pa_cons (pv 1) pa_nil)) (pv 0) (nomark _))))) (pss_one (ps_raise rfl (takes_of rfl rfl rfl rfl) (pmk_own PySem.F.excBase_ValueError T.x_Malformed T.g_Malformed T.k_Malformed (raises_own T.b_Malformed T.t_Malformed) rfl))) pss_nil) (pss_one (ps_ret (pv 1)))))), ?_⟩
  rintro ⟨content_, ⟨⟩⟩ F0 H0 Q KP L
  show Blk K F0 H0 KP _ [iM content_, none] (m_u_number content_)
  unfold m_u_number
  have ht_ := ((et_test (ev_op (opx_B0 (g := fun i j => decide (j < i))) mild_ok (ev_cb cx_len (fun _ _ h => nomatch h) (ea_cons (ev_var (i := 0) (x := content_) rfl) ea_nil)) (ev_int (i := 66)))) : EvT K (W0 E) [iM content_, none] _ _)
  refine blk_seq (blk_if2 L trivial (by exact ht_) ?_ ?_)
  · exact blk_raise L trivial
  · refine blk_nil ?_
    try refine Blk.nx ?_
    have hs_ := ((ev_call (f := (fun (p : (List Int) × Unit) => m_from_big p.1)) (ea_cons (ev_var (i := 0) (x := content_) rfl) ea_nil)) : EvX K (W0 E) [iM content_, none] _ _)
    refine blk_seq (blk_set (i := 1) L trivial (by exact hs_) fun number_ => ?_)
    show Blk _ _ _ _ _ [iM content_, iM number_] _
    try refine Blk.nx ?_
    have ht_ := ((et_or (et_test (ev_op (opx_B0 (g := fun i j => decide (j < i))) mild_ok (ev_bits (ev_var (i := 1) (x := number_) rfl)) (ev_int (i := 520)))) (et_test (ev_op opx_neD mild_need (ev_call (f := (fun (p : Int × Unit) => m_u_number_content p.1)) (ea_cons (ev_var (i := 1) (x := number_) rfl) ea_nil)) (ev_var (i := 0) (x := content_) rfl)))) : EvT K (W0 E) [iM content_, iM number_] _ _)
    refine blk_seq (blk_if2 L trivial (by exact ht_) ?_ ?_)
    · exact blk_raise L trivial
    · refine blk_nil ?_
      try refine Blk.nx ?_
      have hr_ := ((ev_var (i := 1) (x := number_) rfl) : EvX K (W0 E) [iM content_, iM number_] _ _)
      exact blk_ret L trivial (by exact hr_)
noncomputable def m_read_pair (data_ : (List Int)) : Res (T2 Int Int) :=
  (m_u_only_part (toD data_)).bind fun (u88 : (T2 Int (List Int))) =>   (fun (tag_ : Int) (content_ : (List Int)) => (m_u_split_parts content_).bind fun (parts_ : (List (T2 Int (List Int)))) =>   (cond (!decide (tag_ = (48 : Int))) (Res.ok true) ((((Res.ok parts_)).bind fun (xs90 : List (T2 Int (List Int))) => Res.need (xs90.length ≤ 16777216) (compL (fun (x89 : (T2 Int (List Int))) => Res.ok true) (fun (x89 : (T2 Int (List Int))) => (Res.ok x89.a)) xs90)).bind fun (t91 : (List Int)) => Res.need ((toD t91).okq = true ∧ (toD ([(2 : Int), (2 : Int)] : List Int)).okq = true) (Res.ok (!pyEq (toD t91) (toD ([(2 : Int), (2 : Int)] : List Int)))))).bind fun b => cond b   (Res.exc "Malformed")   ((((((idx parts_ (0 : Int)).bind fun (t92 : (T2 Int (List Int))) => Res.ok t92.b).bind fun a93 => Res.ok (a93, ())).bind fun p95 => m_u_number p95.1).bind fun a102 => (((((idx parts_ (1 : Int)).bind fun (t96 : (T2 Int (List Int))) => Res.ok t96.b).bind fun a97 => Res.ok (a97, ())).bind fun p99 => m_u_number p99.1).bind fun a100 => Res.ok (a100, ())).bind fun a103 => Res.ok (a102, a103)).bind fun p104 => Res.ok (T2.mk p104.1 p104.2.1))) u88.a u88.b
theorem ok_read_pair {P : Program} {w : World} {K : PySem.W.Frag} {mg : Str → Option Value} {base : Heap} (T : Facts P w K mg) {fd : FuncData} (F : FnP K "read_pair" "read_pair" s_read_pair (He.ga K "read_pair") fd) :
    FnOk P w K mg base (L2.CX P w) 7 (He.ga K "read_pair") fd ["data"] (spM K (fun (p : (List Int) × Unit) => m_read_pair p.1)) := by
  obtain ⟨fd_u_number, F_u_number⟩ := T.d_u_number
  have G_u_number := ok_u_number (P := P) (w := w) (base := base) T F_u_number
  have b_u_number : Binds K fd_u_number ["content"] [] := F_u_number.bindsN fun _ _ _ _ _ _ us hl => match us, hl with | [_], _ => rfl
  obtain ⟨fd_u_only_part, F_u_only_part⟩ := T.d_u_only_part
  have G_u_only_part := ok_u_only_part (P := P) (w := w) (base := base) T F_u_only_part
  have b_u_only_part : Binds K fd_u_only_part ["data"] [] := F_u_only_part.bindsN fun _ _ _ _ _ _ us hl => match us, hl with | [_], _ => rfl
  obtain ⟨fd_u_split_parts, F_u_split_parts⟩ := T.d_u_split_parts
  have G_u_split_parts := ok_u_split_parts (P := P) (w := w) (base := base) T F_u_split_parts
  have b_u_split_parts : Binds K fd_u_split_parts ["data"] [] := F_u_split_parts.bindsN fun _ _ _ _ _ _ us hl => match us, hl with | [_], _ => rfl
  refine fn_ok F sc_read_pair (fun y => rfl) (fun cdv A outer s H E hr => ?_)
  refine ⟨_, (pss_cons (ps_asg (pe_callS G_u_only_part (hr.mono (by decide)) rfl T.g_u_only_part F_u_only_part.kp b_u_only_part (fun σ => passAt (takes_of rfl rfl rfl rfl) σ) (pa_cons (pv 0) pa_nil)) (pg_tup rfl (pgs_cons (pg_name (i := 1) sc_read_pair.nd rfl (Or.inl rfl)) (pgs_cons (pg_name (i := 2) sc_read_pair.nd rfl (Or.inl rfl)) pgs_nil)))) (pss_cons (ps_set (i := 3) sc_read_pair.nd rfl (Or.inl rfl) (pe_callS G_u_split_parts (hr.mono (by decide)) rfl T.g_u_split_parts F_u_split_parts.kp b_u_split_parts (fun σ => passAt (takes_of rfl rfl rfl rfl) σ) (pa_cons (pv 2) pa_nil))) (pss_cons (ps_if (PW.pt (pw_or (pt_cmpR op_ne (pv 1) (pe_glob (v := .int 48) rfl T.c_SEQUENCE_TAG.choose_spec ⟨_, rfl⟩) (nomark _)) (pw_or1 (pt_cmpR (op_neD (Room.units hr)) (pe_lc (own := [("inner", 4), ("_", 5)]) rfl sc_read_pair.nd (pi_list (pv 3)) (blkOk_by (own := [("inner", 4), ("_", 5)]) (N := ["data", "tag", "content", "parts", "inner", "_"]) (sc := defScope s_read_pair) (by decide +kernel)) (fun _ _ _ _ _ => (pg_tupK (n := 2) rfl rfl (pgs_cons (pg_name (i := 4) sc_read_pair.nd rfl (Or.inl rfl)) (pgs_cons (pg_name (i := 5) sc_read_pair.nd rfl (Or.inl rfl)) pgs_nil)))) (fun _ _ _ _ _ => pts_nil) (fun _ _ _ _ _ => (pv 4))) (pe_lst (pa_cons (pe_glob (v := .int 2) rfl T.c_NUMBER_TAG.choose_spec ⟨_, rfl⟩) (pa_cons (pe_glob (v := .int 2) rfl T.c_NUMBER_TAG.choose_spec ⟨_, rfl⟩) pa_nil))) (nomark _))))) (pss_one (ps_raise rfl (takes_of rfl rfl rfl rfl) (pmk_own PySem.F.excBase_ValueError T.x_Malformed T.g_Malformed T.k_Malformed (raises_own T.b_Malformed T.t_Malformed) rfl))) pss_nil) (pss_one (ps_ret (pe_tup (pa_cons (pe_callS G_u_number (hr.mono (by decide)) rfl T.g_u_number F_u_number.kp b_u_number (fun σ => passAt (takes_of rfl rfl rfl rfl) σ) (pa_cons (pe_ix (cr_ixT rfl) (pe_ix (cr_ixL rfl) (pv 3) pe_int (fun _ _ => rfl)) pe_int (fun _ _ => rfl)) pa_nil)) (pa_cons (pe_callS G_u_number (hr.mono (by decide)) rfl T.g_u_number F_u_number.kp b_u_number (fun σ => passAt (takes_of rfl rfl rfl rfl) σ) (pa_cons (pe_ix (cr_ixT rfl) (pe_ix (cr_ixL rfl) (pv 3) pe_int (fun _ _ => rfl)) pe_int (fun _ _ => rfl)) pa_nil)) pa_nil)))))))), ?_⟩
  rintro ⟨data_, ⟨⟩⟩ F0 H0 Q KP L
  show Blk K F0 H0 KP _ [iM data_, none, none, none, none, none] (m_read_pair data_)
  unfold m_read_pair
  have hs_ := ((ev_call (f := (fun (p : D × Unit) => m_u_only_part p.1)) (ea_cons (ev_as (ev_var (i := 0) (x := data_) rfl) toD (fun _ => rfl) rfl) ea_nil)) : EvX K (W0 E) [iM data_, none, none, none, none, none] _ _)
  refine blk_seq (blk_asg L trivial (by exact hs_) (fun _ => (gx_tup (n := 2) (gxs_cons gx_name (gxs_cons gx_name gxs_nil)) rfl)) fun u88 => ?_)
  show Blk _ _ _ _ _ [iM data_, iM u88.a, iM u88.b, none, none, none] ((fun (tag_ : Int) (content_ : (List Int)) => _) u88.a u88.b)
  generalize u88.a = tag_
  generalize u88.b = content_
  show Blk _ _ _ _ _ [iM data_, iM tag_, iM content_, none, none, none] _
  try refine Blk.nx ?_
  have hs_ := ((ev_call (f := (fun (p : (List Int) × Unit) => m_u_split_parts p.1)) (ea_cons (ev_var (i := 2) (x := content_) rfl) ea_nil)) : EvX K (W0 E) [iM data_, iM tag_, iM content_, none, none, none] _ _)
  refine blk_seq (blk_set (i := 3) L trivial (by exact hs_) fun parts_ => ?_)
  show Blk _ _ _ _ _ [iM data_, iM tag_, iM content_, iM parts_, none, none] _
  try refine Blk.nx ?_
  have ht_ := ((et_or (et_test (ev_op opx_neI mild_ok (ev_var (i := 1) (x := tag_) rfl) (ev_int (i := 48)))) (et_test (ev_op opx_neD mild_need (ev_ofN (ev_comp (tst := fun (x89 : (T2 Int (List Int))) => Res.ok true) (el := fun (x89 : (T2 Int (List Int))) => (Res.ok x89.a)) (ws := [4, 5]) (ei_list (ev_var (i := 3) (x := parts_) rfl)) (fun _ => (gx_tup (n := 2) (gxs_cons gx_name (gxs_cons gx_name gxs_nil)) rfl)) (fun x89 => et_yes) (fun x89 => ((ev_var (i := 4) (x := x89.a) rfl) : EvX K WT [iM data_, iM tag_, iM content_, iM parts_, iM x89.a, iM x89.b] _ _)))) (ev_ofN (en_lst (f := (fun y => ([y.1, y.2.1] : List Int))) (ea_cons (ev_int (i := 2)) (ea_cons (ev_int (i := 2)) ea_nil)) (fun _ => rfl) (fun _ => by show 2 ≤ 100000; decide)))))) : EvT K (W0 E) [iM data_, iM tag_, iM content_, iM parts_, none, none] _ _)
  refine blk_seq (blk_if2 L trivial (by exact ht_) ?_ ?_)
  · exact blk_raise L trivial
  · refine blk_nil ?_
    try refine Blk.nx ?_
    have hr_ := ((ev_tup (f := (fun (y : Int × Int × Unit) => T2.mk y.1 y.2.1)) (ea_cons (ev_call (f := (fun (p : (List Int) × Unit) => m_u_number p.1)) (ea_cons (ev_ixTC (i := 1) (f := fun (x : (T2 Int (List Int))) => x.b) (ev_op opx_ixL (fun x y => idx_mild x y) (ev_var (i := 3) (x := parts_) rfl) (ev_int (i := 0))) (fun x => ⟨_, rfl, rfl⟩)) ea_nil)) (ea_cons (ev_call (f := (fun (p : (List Int) × Unit) => m_u_number p.1)) (ea_cons (ev_ixTC (i := 1) (f := fun (x : (T2 Int (List Int))) => x.b) (ev_op opx_ixL (fun x y => idx_mild x y) (ev_var (i := 3) (x := parts_) rfl) (ev_int (i := 1))) (fun x => ⟨_, rfl, rfl⟩)) ea_nil)) ea_nil)) (fun _ => rfl) (fun _ => by show 2 ≤ 100000; decide)) : EvX K (W0 E) [iM data_, iM tag_, iM content_, iM parts_, none, none] _ _)
    exact blk_ret L trivial (by exact hr_)
noncomputable def m_u_tree_value_b (rec_ : Int → (List Int) → Int → Res D) (tag_ : Int) (content_ : (List Int)) (levels_ : Int) : Res D :=
  ((Res.ok (decide (tag_ = (2 : Int))))).bind fun b => cond b   ((m_u_number content_).bind fun (x : Int) => Res.ok (toD x))   (((Res.ok (!decide (tag_ = (48 : Int))))).bind fun b => cond b   (Res.exc "Malformed")   (((Res.ok (decide (levels_ = (0 : Int))))).bind fun b => cond b   (Res.exc "Malformed")   ((((m_u_split_parts content_).bind fun (xs106 : List (T2 Int (List Int))) => Res.need (xs106.length ≤ 16777216) (compL (fun (x105 : (T2 Int (List Int))) => Res.ok true) (fun (x105 : (T2 Int (List Int))) => rec_ x105.a x105.b (levels_ - (1 : Int))) xs106)).bind fun (t107 : (List D)) => Res.ok (Tu.mk t107)).bind fun (x : (Tu D)) => Res.ok (toD x))))
noncomputable def m_u_tree_value : Nat → Int → (List Int) → Int → Res D
  | 0, _, _, _ => Res.stuck
  | n_ + 1, tag_, content_, levels_ => m_u_tree_value_b (m_u_tree_value n_) tag_ content_ levels_
theorem ok_u_tree_value {P : Program} {w : World} {K : PySem.W.Frag} {mg : Str → Option Value} {base : Heap} (T : Facts P w K mg) {fd : FuncData} (F : FnP K "_tree_value" "_tree_value" s_u_tree_value (He.ga K "_tree_value") fd) : ∀ n_ : Nat,
    FnOk P w K mg base (L2.CX P w) (5 + n_) (He.ga K "_tree_value") fd ["tag", "content", "levels"] (spM K (fun (p : Int × (List Int) × Int × Unit) => m_u_tree_value n_ p.1 p.2.1 p.2.2.1)) := by
  obtain ⟨fd_u_number, F_u_number⟩ := T.d_u_number
  have G_u_number := ok_u_number (P := P) (w := w) (base := base) T F_u_number
  have b_u_number : Binds K fd_u_number ["content"] [] := F_u_number.bindsN fun _ _ _ _ _ _ us hl => match us, hl with | [_], _ => rfl
  obtain ⟨fd_u_split_parts, F_u_split_parts⟩ := T.d_u_split_parts
  have G_u_split_parts := ok_u_split_parts (P := P) (w := w) (base := base) T F_u_split_parts
  have b_u_split_parts : Binds K fd_u_split_parts ["data"] [] := F_u_split_parts.bindsN fun _ _ _ _ _ _ us hl => match us, hl with | [_], _ => rfl
  have b_u_tree_value : Binds K fd ["tag", "content", "levels"] [] := F.bindsN fun _ _ _ _ _ _ us hl => match us, hl with | [_, _, _], _ => rfl
  have F_u_tree_value := F
  intro n_
  induction n_ with
  | zero => exact fnok_stuck _ (fun _ => rfl)
  | succ n_ G_u_tree_value =>
  refine fn_ok (k := 5 + n_) F sc_u_tree_value (fun y => rfl) (fun cdv A outer s H E hr => ?_)
  refine ⟨_, (pss_cons (ps_if (pt_cmpR op_eq (pv 0) (pe_glob (v := .int 2) rfl T.c_NUMBER_TAG.choose_spec ⟨_, rfl⟩) (nomark _)) (pss_one (ps_ret (pe_callS G_u_number (hr.mono (by omega)) rfl T.g_u_number F_u_number.kp b_u_number (fun σ => passAt (takes_of rfl rfl rfl rfl) σ) (pa_cons (pv 1) pa_nil)))) pss_nil) (pss_cons (ps_if (pt_cmpR op_ne (pv 0) (pe_glob (v := .int 48) rfl T.c_SEQUENCE_TAG.choose_spec ⟨_, rfl⟩) (nomark _)) (pss_one (ps_raise rfl (takes_of rfl rfl rfl rfl) (pmk_own PySem.F.excBase_ValueError T.x_Malformed T.g_Malformed T.k_Malformed (raises_own T.b_Malformed T.t_Malformed) rfl))) pss_nil) (pss_cons (ps_if (pt_cmpR op_eq (pv 2) pe_int (nomark _)) (pss_one (ps_raise rfl (takes_of rfl rfl rfl rfl) (pmk_own PySem.F.excBase_ValueError T.x_Malformed T.g_Malformed T.k_Malformed (raises_own T.b_Malformed T.t_Malformed) rfl))) pss_nil) (pss_one (ps_ret (pe_callTy call_tuple_of (by rfl) T.n_tuple (by decide +kernel) (pa_cons (pe_lcE (own := [("inner", 3), ("part", 4)]) rfl rfl (takes_of rfl rfl rfl rfl) rfl sc_u_tree_value.nd (pi_list (pe_callS G_u_split_parts (hr.mono (by omega)) rfl T.g_u_split_parts F_u_split_parts.kp b_u_split_parts (fun σ => passAt (takes_of rfl rfl rfl rfl) σ) (pa_cons (pv 1) pa_nil))) (blkOk_by (own := [("inner", 3), ("part", 4)]) (N := ["tag", "content", "levels", "inner", "part"]) (sc := defScope s_u_tree_value) (by decide +kernel)) (fun _ _ _ _ _ => (pg_tupK (n := 2) rfl rfl (pgs_cons (pg_name (i := 3) sc_u_tree_value.nd rfl (Or.inl rfl)) (pgs_cons (pg_name (i := 4) sc_u_tree_value.nd rfl (Or.inl rfl)) pgs_nil)))) (fun _ _ _ _ _ => pts_nil) (fun _ _ _ _ _ px_ => (pe_callS G_u_tree_value (hr.mono (by omega)) rfl T.g_u_tree_value F_u_tree_value.kp b_u_tree_value px_ (pa_cons (pv 3) (pa_cons (pv 4) (pa_cons (pe_op op_sub (pv 2) pe_int) pa_nil)))))) pa_nil))))))), ?_⟩
  rintro ⟨tag_, content_, levels_, ⟨⟩⟩ F0 H0 Q KP L
  show Blk K F0 H0 KP _ [iM tag_, iM content_, iM levels_, none, none] (m_u_tree_value_b (m_u_tree_value n_) tag_ content_ levels_)
  unfold m_u_tree_value_b
  have ht_ := ((et_test (ev_op opx_eqI mild_ok (ev_var (i := 0) (x := tag_) rfl) (ev_int (i := 2)))) : EvT K (W0 E) [iM tag_, iM content_, iM levels_, none, none] _ _)
  refine blk_seq (blk_if2 L trivial (by exact ht_) ?_ ?_)
  · have hr_ := ((ev_as (ev_call (f := (fun (p : (List Int) × Unit) => m_u_number p.1)) (ea_cons (ev_var (i := 1) (x := content_) rfl) ea_nil)) toD (fun _ => rfl) rfl) : EvX K (W0 E) [iM tag_, iM content_, iM levels_, none, none] _ _)
    exact blk_ret L trivial (by exact hr_)
  · refine blk_nil ?_
    try refine Blk.nx ?_
    have ht_ := ((et_test (ev_op opx_neI mild_ok (ev_var (i := 0) (x := tag_) rfl) (ev_int (i := 48)))) : EvT K (W0 E) [iM tag_, iM content_, iM levels_, none, none] _ _)
    refine blk_seq (blk_if2 L trivial (by exact ht_) ?_ ?_)
    · exact blk_raise L trivial
    · refine blk_nil ?_
      try refine Blk.nx ?_
      have ht_ := ((et_test (ev_op opx_eqI mild_ok (ev_var (i := 2) (x := levels_) rfl) (ev_int (i := 0)))) : EvT K (W0 E) [iM tag_, iM content_, iM levels_, none, none] _ _)
      refine blk_seq (blk_if2 L trivial (by exact ht_) ?_ ?_)
      · exact blk_raise L trivial
      · refine blk_nil ?_
        try refine Blk.nx ?_
        have hr_ := ((ev_as (ev_tupleL (ev_ofN (ev_compE (tst := fun (x105 : (T2 Int (List Int))) => Res.ok true) (el := fun (x105 : (T2 Int (List Int))) => (m_u_tree_value n_) x105.a x105.b (levels_ - (1 : Int))) (ws := [3, 4]) (ei_list (ev_call (f := (fun (p : (List Int) × Unit) => m_u_split_parts p.1)) (ea_cons (ev_var (i := 1) (x := content_) rfl) ea_nil))) (fun _ => (gx_tup (n := 2) (gxs_cons gx_name (gxs_cons gx_name gxs_nil)) rfl)) (fun x105 => et_yes) (fun x105 => ((ev_call (f := (fun (p : Int × (List Int) × Int × Unit) => (m_u_tree_value n_) p.1 p.2.1 p.2.2.1)) (ea_cons (ev_var (i := 3) (x := x105.a) rfl) (ea_cons (ev_var (i := 4) (x := x105.b) rfl) (ea_cons (ev_op (opx_I0 (g := fun i j => i - j)) mild_ok (ev_var (i := 2) (x := levels_) rfl) (ev_int (i := 1))) ea_nil)))) : EvX K (W0 E) [iM tag_, iM content_, iM levels_, iM x105.a, iM x105.b] _ _))))) toD (fun _ => rfl) rfl) : EvX K (W0 E) [iM tag_, iM content_, iM levels_, none, none] _ _)
        exact blk_ret L trivial (by exact hr_)
noncomputable def m_read_tree (data_ : D) : Res D :=
  (m_u_only_part data_).bind fun (u108 : (T2 Int (List Int))) =>   (fun (tag_ : Int) (content_ : (List Int)) => (m_u_tree_value 12 tag_ content_ (8 : Int)).bind fun (value_ : D) =>   ((m_u_part_count 12 value_).bind fun (t109 : Int) => Res.ok (decide ((64 : Int) < t109))).bind fun b => cond b   (Res.exc "Malformed")   ((Res.ok value_))) u108.a u108.b
theorem ok_read_tree {P : Program} {w : World} {K : PySem.W.Frag} {mg : Str → Option Value} {base : Heap} (T : Facts P w K mg) {fd : FuncData} (F : FnP K "read_tree" "read_tree" s_read_tree (He.ga K "read_tree") fd) :
    FnOk P w K mg base (L2.CX P w) 18 (He.ga K "read_tree") fd ["data"] (spM K (fun (p : D × Unit) => m_read_tree p.1)) := by
  obtain ⟨fd_u_only_part, F_u_only_part⟩ := T.d_u_only_part
  have G_u_only_part := ok_u_only_part (P := P) (w := w) (base := base) T F_u_only_part
  have b_u_only_part : Binds K fd_u_only_part ["data"] [] := F_u_only_part.bindsN fun _ _ _ _ _ _ us hl => match us, hl with | [_], _ => rfl
  obtain ⟨fd_u_part_count, F_u_part_count⟩ := T.d_u_part_count
  have G_u_part_count := ok_u_part_count (P := P) (w := w) (base := base) T F_u_part_count 12
  have b_u_part_count : Binds K fd_u_part_count ["value"] [] := F_u_part_count.bindsN fun _ _ _ _ _ _ us hl => match us, hl with | [_], _ => rfl
  obtain ⟨fd_u_tree_value, F_u_tree_value⟩ := T.d_u_tree_value
  have G_u_tree_value := ok_u_tree_value (P := P) (w := w) (base := base) T F_u_tree_value 12
  have b_u_tree_value : Binds K fd_u_tree_value ["tag", "content", "levels"] [] := F_u_tree_value.bindsN fun _ _ _ _ _ _ us hl => match us, hl with | [_, _, _], _ => rfl
  refine fn_ok F sc_read_tree (fun y => rfl) (fun cdv A outer s H E hr => ?_)
  refine ⟨_, (pss_cons (ps_asg (pe_callS G_u_only_part (hr.mono (by decide)) rfl T.g_u_only_part F_u_only_part.kp b_u_only_part (fun σ => passAt (takes_of rfl rfl rfl rfl) σ) (pa_cons (pv 0) pa_nil)) (pg_tup rfl (pgs_cons (pg_name (i := 1) sc_read_tree.nd rfl (Or.inl rfl)) (pgs_cons (pg_name (i := 2) sc_read_tree.nd rfl (Or.inl rfl)) pgs_nil)))) (pss_cons (ps_set (i := 3) sc_read_tree.nd rfl (Or.inl rfl) (pe_callS G_u_tree_value (hr.mono (by decide)) rfl T.g_u_tree_value F_u_tree_value.kp b_u_tree_value (fun σ => passAt (takes_of rfl rfl rfl rfl) σ) (pa_cons (pv 1) (pa_cons (pv 2) (pa_cons (pe_glob (v := .int 8) rfl T.c_MOST_LEVELS.choose_spec ⟨_, rfl⟩) pa_nil))))) (pss_cons (ps_if (pt_cmpR op_gt (pe_callS G_u_part_count (hr.mono (by decide)) rfl T.g_u_part_count F_u_part_count.kp b_u_part_count (fun σ => passAt (takes_of rfl rfl rfl rfl) σ) (pa_cons (pv 3) pa_nil)) (pe_glob (v := .int 64) rfl T.c_MOST_PARTS.choose_spec ⟨_, rfl⟩) (nomark _)) (pss_one (ps_raise rfl (takes_of rfl rfl rfl rfl) (pmk_own PySem.F.excBase_ValueError T.x_Malformed T.g_Malformed T.k_Malformed (raises_own T.b_Malformed T.t_Malformed) rfl))) pss_nil) (pss_one (ps_ret (pv 3)))))), ?_⟩
  rintro ⟨data_, ⟨⟩⟩ F0 H0 Q KP L
  show Blk K F0 H0 KP _ [iM data_, none, none, none] (m_read_tree data_)
  unfold m_read_tree
  have hs_ := ((ev_call (f := (fun (p : D × Unit) => m_u_only_part p.1)) (ea_cons (ev_var (i := 0) (x := data_) rfl) ea_nil)) : EvX K (W0 E) [iM data_, none, none, none] _ _)
  refine blk_seq (blk_asg L trivial (by exact hs_) (fun _ => (gx_tup (n := 2) (gxs_cons gx_name (gxs_cons gx_name gxs_nil)) rfl)) fun u108 => ?_)
  show Blk _ _ _ _ _ [iM data_, iM u108.a, iM u108.b, none] ((fun (tag_ : Int) (content_ : (List Int)) => _) u108.a u108.b)
  generalize u108.a = tag_
  generalize u108.b = content_
  show Blk _ _ _ _ _ [iM data_, iM tag_, iM content_, none] _
  try refine Blk.nx ?_
  have hs_ := ((ev_call (f := (fun (p : Int × (List Int) × Int × Unit) => m_u_tree_value 12 p.1 p.2.1 p.2.2.1)) (ea_cons (ev_var (i := 1) (x := tag_) rfl) (ea_cons (ev_var (i := 2) (x := content_) rfl) (ea_cons (ev_int (i := 8)) ea_nil)))) : EvX K (W0 E) [iM data_, iM tag_, iM content_, none] _ _)
  refine blk_seq (blk_set (i := 3) L trivial (by exact hs_) fun value_ => ?_)
  show Blk _ _ _ _ _ [iM data_, iM tag_, iM content_, iM value_] _
  try refine Blk.nx ?_
  have ht_ := ((et_test (ev_op (opx_B0 (g := fun i j => decide (j < i))) mild_ok (ev_call (f := (fun (p : D × Unit) => m_u_part_count 12 p.1)) (ea_cons (ev_var (i := 3) (x := value_) rfl) ea_nil)) (ev_int (i := 64)))) : EvT K (W0 E) [iM data_, iM tag_, iM content_, iM value_] _ _)
  refine blk_seq (blk_if2 L trivial (by exact ht_) ?_ ?_)
  · exact blk_raise L trivial
  · refine blk_nil ?_
    try refine Blk.nx ?_
    have hr_ := ((ev_var (i := 3) (x := value_) rfl) : EvX K (W0 E) [iM data_, iM tag_, iM content_, iM value_] _ _)
    exact blk_ret L trivial (by exact hr_)
noncomputable def m_u_law_cell (script_ : (Ro Int)) (k_ : Int) : Res Int :=
  ((Res.ok (decide (k_ < ((script_).xs.length : Int))))).bind fun b => cond b   (((idx (script_).xs k_).bind fun a110 => Res.ok (a110, ())).bind fun p112 => Res.ok p112.1)   ((Res.ok (0 : Int)))
theorem ok_u_law_cell {P : Program} {w : World} {K : PySem.W.Frag} {mg : Str → Option Value} {base : Heap} (T : Facts P w K mg) {fd : FuncData} (F : FnP K "_law_cell" "_law_cell" s_u_law_cell (He.ga K "_law_cell") fd) :
    FnOk P w K mg base (L2.CX P w) 1 (He.ga K "_law_cell") fd ["script", "k"] (spM K (fun (p : (Ro Int) × Int × Unit) => m_u_law_cell p.1 p.2.1)) := by
  refine fn_ok F sc_u_law_cell (fun y => rfl) (fun cdv A outer s H E hr => ?_)
  refine ⟨_, (pss_cons (ps_if (pt_cmpR op_lt (pv 1) (pe_callB (cr_len rfl) (by rfl) T.n_len (by decide +kernel) (pa_cons (pv 0) pa_nil)) (nomark _)) (pss_one (ps_ret (pe_callTy call_int1 (by rfl) T.n_int (by decide +kernel) (pa_cons (pe_ix (cr_ixL rfl) (pv 0) (pv 1) (fun _ _ => rfl)) pa_nil)))) pss_nil) (pss_one (ps_ret pe_int))), ?_⟩
  rintro ⟨script_, k_, ⟨⟩⟩ F0 H0 Q KP L
  show Blk K F0 H0 KP _ [iM script_, iM k_] (m_u_law_cell script_ k_)
  unfold m_u_law_cell
  have ht_ := ((et_test (ev_op (opx_B0 (g := fun i j => decide (i < j))) mild_ok (ev_var (i := 1) (x := k_) rfl) (ev_cb cx_lenRo (fun _ _ h => nomatch h) (ea_cons (ev_var (i := 0) (x := script_) rfl) ea_nil)))) : EvT K (W0 E) [iM script_, iM k_] _ _)
  refine blk_seq (blk_if2 L trivial (by exact ht_) ?_ ?_)
  · have hr_ := ((ev_cb cx_int (fun _ _ h => nomatch h) (ea_cons (ev_op opx_ixR (fun x y => idx_mild x.xs y) (ev_var (i := 0) (x := script_) rfl) (ev_var (i := 1) (x := k_) rfl)) ea_nil)) : EvX K (W0 E) [iM script_, iM k_] _ _)
    exact blk_ret L trivial (by exact hr_)
  · refine blk_nil ?_
    try refine Blk.nx ?_
    have hr_ := ((ev_int (i := 0)) : EvX K (W0 E) [iM script_, iM k_] _ _)
    exact blk_ret L trivial (by exact hr_)
noncomputable def m_u_law_twice (cell_ : Int) (k_ : Int) : Res Int :=
  ((Res.ok ((((cell_ * (48271 : Int)) + (k_ * (69621 : Int))) + (7 : Int)) % (2147483647 : Int)))).bind fun (x_ : Int) =>   ((((Res.need (CMulX x_ x_) (Res.ok (x_ * x_))).bind fun (t113 : Int) => Res.ok (t113 + (k_ * (40692 : Int)))).bind fun (t114 : Int) => Res.ok (t114 + (3 : Int))).bind fun (t115 : Int) => Res.ok (t115 % (2147483629 : Int))).bind fun (x_ : Int) =>   ((((Res.need (CMulX x_ x_) (Res.ok (x_ * x_))).bind fun (t116 : Int) => Res.ok (t116 + (k_ * (30269 : Int)))).bind fun (t117 : Int) => Res.ok (t117 + (5 : Int))).bind fun (t118 : Int) => Res.ok (t118 % (2147483587 : Int))).bind fun (x_ : Int) =>   (Res.ok (x_ / (64 : Int)))
theorem ok_u_law_twice {P : Program} {w : World} {K : PySem.W.Frag} {mg : Str → Option Value} {base : Heap} (T : Facts P w K mg) {fd : FuncData} (F : FnP K "_law_twice" "_law_twice" s_u_law_twice (He.ga K "_law_twice") fd) :
    FnOk P w K mg base (L2.CX P w) 1 (He.ga K "_law_twice") fd ["cell", "k"] (spM K (fun (p : Int × Int × Unit) => m_u_law_twice p.1 p.2.1)) := by
  refine fn_ok F sc_u_law_twice (fun y => rfl) (fun cdv A outer s H E hr => ?_)
  refine ⟨_, (pss_cons (ps_set (i := 2) sc_u_law_twice.nd rfl (Or.inl rfl) (pe_op op_mod (pe_op op_add (pe_op op_add (pe_op op_mul (pe_callTy call_int1 (by rfl) T.n_int (by decide +kernel) (pa_cons (pv 0) pa_nil)) pe_int) (pe_op op_mul (pv 1) pe_int)) pe_int) pe_int)) (pss_cons (ps_set (i := 2) sc_u_law_twice.nd rfl (Or.inl rfl) (pe_op op_mod (pe_op op_add (pe_op op_add (pe_op op_mulX (pv 2) (pv 2)) (pe_op op_mul (pv 1) pe_int)) pe_int) pe_int)) (pss_cons (ps_set (i := 2) sc_u_law_twice.nd rfl (Or.inl rfl) (pe_op op_mod (pe_op op_add (pe_op op_add (pe_op op_mulX (pv 2) (pv 2)) (pe_op op_mul (pv 1) pe_int)) pe_int) pe_int)) (pss_one (ps_ret (pe_op op_fdiv (pv 2) pe_int)))))), ?_⟩
  rintro ⟨cell_, k_, ⟨⟩⟩ F0 H0 Q KP L
  show Blk K F0 H0 KP _ [iM cell_, iM k_, none] (m_u_law_twice cell_ k_)
  unfold m_u_law_twice
  have hs_ := ((ev_opI (C := (fun _ j => 0 < j)) (g := fun i j => i % j) (fun x y _ h => by cases h; (show (0 : Int) < _; decide)) (ev_op (opx_I0 (g := fun i j => i + j)) mild_ok (ev_op (opx_I0 (g := fun i j => i + j)) mild_ok (ev_opI (C := CMul) (g := fun i j => i * j) (fun x y _ h => by cases h; exact .inr (by decide)) (ev_cb cx_int (fun _ _ h => nomatch h) (ea_cons (ev_var (i := 0) (x := cell_) rfl) ea_nil)) (ev_int (i := 48271))) (ev_opI (C := CMul) (g := fun i j => i * j) (fun x y _ h => by cases h; exact .inr (by decide)) (ev_var (i := 1) (x := k_) rfl) (ev_int (i := 69621)))) (ev_int (i := 7))) (ev_int (i := 2147483647))) : EvX K (W0 E) [iM cell_, iM k_, none] _ _)
  refine blk_seq (blk_set (i := 2) L trivial (by exact hs_) fun x_ => ?_)
  show Blk _ _ _ _ _ [iM cell_, iM k_, iM x_] _
  try refine Blk.nx ?_
  have hs_ := ((ev_opI (C := (fun _ j => 0 < j)) (g := fun i j => i % j) (fun x y _ h => by cases h; (show (0 : Int) < _; decide)) (ev_op (opx_I0 (g := fun i j => i + j)) mild_ok (ev_op (opx_I0 (g := fun i j => i + j)) mild_ok (ev_op (opx_I (C := CMulX) (g := fun i j => i * j)) mild_need (ev_var (i := 2) (x := x_) rfl) (ev_var (i := 2) (x := x_) rfl)) (ev_opI (C := CMul) (g := fun i j => i * j) (fun x y _ h => by cases h; exact .inr (by decide)) (ev_var (i := 1) (x := k_) rfl) (ev_int (i := 40692)))) (ev_int (i := 3))) (ev_int (i := 2147483629))) : EvX K (W0 E) [iM cell_, iM k_, iM x_] _ _)
  refine blk_seq (blk_set (i := 2) L trivial (by exact hs_) fun x_ => ?_)
  show Blk _ _ _ _ _ [iM cell_, iM k_, iM x_] _
  try refine Blk.nx ?_
  have hs_ := ((ev_opI (C := (fun _ j => 0 < j)) (g := fun i j => i % j) (fun x y _ h => by cases h; (show (0 : Int) < _; decide)) (ev_op (opx_I0 (g := fun i j => i + j)) mild_ok (ev_op (opx_I0 (g := fun i j => i + j)) mild_ok (ev_op (opx_I (C := CMulX) (g := fun i j => i * j)) mild_need (ev_var (i := 2) (x := x_) rfl) (ev_var (i := 2) (x := x_) rfl)) (ev_opI (C := CMul) (g := fun i j => i * j) (fun x y _ h => by cases h; exact .inr (by decide)) (ev_var (i := 1) (x := k_) rfl) (ev_int (i := 30269)))) (ev_int (i := 5))) (ev_int (i := 2147483587))) : EvX K (W0 E) [iM cell_, iM k_, iM x_] _ _)
  refine blk_seq (blk_set (i := 2) L trivial (by exact hs_) fun x_ => ?_)
  show Blk _ _ _ _ _ [iM cell_, iM k_, iM x_] _
  try refine Blk.nx ?_
  have hr_ := ((ev_opI (C := CDiv) (g := fun i j => i / j) (fun x y _ h => by cases h; exact ⟨by decide, by decide⟩) (ev_var (i := 2) (x := x_) rfl) (ev_int (i := 64))) : EvX K (W0 E) [iM cell_, iM k_, iM x_] _ _)
  exact blk_ret L trivial (by exact hr_)
noncomputable def m_u_law_integer (x_ : D) : Res Bool :=
  (Res.need ((toD x_).plain = true) (Res.ok (isI "int" (toD x_)))).bind fun b120 => cond b120 ((Res.need ((toD x_).plain = true) (Res.ok (isI "bool" (toD x_)))).bind fun (t119 : Bool) => Res.ok (!t119)) (Res.ok false)
theorem ok_u_law_integer {P : Program} {w : World} {K : PySem.W.Frag} {mg : Str → Option Value} {base : Heap} (T : Facts P w K mg) {fd : FuncData} (F : FnP K "_law_integer" "_law_integer" s_u_law_integer (He.ga K "_law_integer") fd) :
    FnOk P w K mg base (L2.CX P w) 1 (He.ga K "_law_integer") fd ["x"] (spM K (fun (p : D × Unit) => m_u_law_integer p.1)) := by
  refine fn_ok F sc_u_law_integer (fun y => rfl) (fun cdv A outer s H E hr => ?_)
  refine ⟨_, (pss_one (ps_ret (pe_and (pe_callB call_isi (by rfl) T.n_isinstance (by decide +kernel) (pa_cons (pv 0) (pa_cons (pe_bltn (v := .ty "int") (by rfl) T.n_int (by decide +kernel) rfl) pa_nil))) (pe_one (pe_not (pe_callB call_isi (by rfl) T.n_isinstance (by decide +kernel) (pa_cons (pv 0) (pa_cons (pe_bltn (v := .ty "bool") (by rfl) T.n_bool (by decide +kernel) rfl) pa_nil)))))))), ?_⟩
  rintro ⟨x_, ⟨⟩⟩ F0 H0 Q KP L
  show Blk K F0 H0 KP _ [iM x_] (m_u_law_integer x_)
  unfold m_u_law_integer
  have hr_ := ((ev_andV (ev_isi isi_int (ev_var (i := 0) (x := x_) rfl)) (ev_notV (ev_isi isi_bool (ev_var (i := 0) (x := x_) rfl)))) : EvX K (W0 E) [iM x_] _ _)
  exact blk_ret L trivial (by exact hr_)
noncomputable def m_u_law_is_list_l2 (k2 : Unit → Res Bool) : List (T2 D Int) → Unit → Res Bool
  | [], s => k2 s
  | x128 :: r2, _ =>   (fun (one_ : D) (other_ : Int) => (((m_u_law_integer one_).bind fun (t129 : Bool) => Res.ok (!t129)).bind fun b130 => cond b130 (Res.ok true) (Res.need ((toD one_).okq = true ∧ (toD other_).okq = true) (Res.ok (!pyEq (toD one_) (toD other_))))).bind fun b => cond b   ((Res.ok false))   (m_u_law_is_list_l2 k2 r2 ())) x128.a x128.b
noncomputable def m_u_law_is_list_k3 : Unit → Res Bool := fun _ =>   (Res.ok true)
noncomputable def m_u_law_is_list (found_ : D) (due_ : (List Int)) : Res Bool :=
  (((Res.need ((toD found_).plain = true) (Res.ok (isI "list" (toD found_)))).bind fun (t121 : Bool) => Res.ok (!t121)).bind fun b124 => cond b124 (Res.ok true) ((((Res.ok found_)).bind fun (t122 : D) => D.lenR t122).bind fun (t123 : Int) => Res.ok (!decide (t123 = ((due_).length : Int))))).bind fun b => cond b   ((Res.ok false))   ((((((Res.ok found_)).bind D.asList).bind fun a125 => Res.ok (a125, (due_, ()))).bind fun p127 => Res.ok (List.zipWith T2.mk p127.1 p127.2.1)).bind fun (xs131 : List (T2 D Int)) => m_u_law_is_list_l2 (m_u_law_is_list_k3) xs131 ())
theorem ok_u_law_is_list {P : Program} {w : World} {K : PySem.W.Frag} {mg : Str → Option Value} {base : Heap} (T : Facts P w K mg) {fd : FuncData} (F : FnP K "_law_is_list" "_law_is_list" s_u_law_is_list (He.ga K "_law_is_list") fd) :
    FnOk P w K mg base (L2.CX P w) 2 (He.ga K "_law_is_list") fd ["found", "due"] (spM K (fun (p : D × (List Int) × Unit) => m_u_law_is_list p.1 p.2.1)) := by
  obtain ⟨fd_u_law_integer, F_u_law_integer⟩ := T.d_u_law_integer
  have G_u_law_integer := ok_u_law_integer (P := P) (w := w) (base := base) T F_u_law_integer
  have b_u_law_integer : Binds K fd_u_law_integer ["x"] [] := F_u_law_integer.bindsN fun _ _ _ _ _ _ us hl => match us, hl with | [_], _ => rfl
  refine fn_ok F sc_u_law_is_list (fun y => rfl) (fun cdv A outer s H E hr => ?_)
  refine ⟨_, (pss_cons (ps_if (PW.pt (pw_or (pt_not (pt_val (pe_callB call_isi (by rfl) T.n_isinstance (by decide +kernel) (pa_cons (pv 0) (pa_cons (pe_bltn (v := .ty "list") (by rfl) T.n_list (by decide +kernel) rfl) pa_nil))))) (pw_or1 (pt_cmpR op_ne (pe_callB (cr_len rfl) (by rfl) T.n_len (by decide +kernel) (pa_cons (pv 0) pa_nil)) (pe_callB (cr_len rfl) (by rfl) T.n_len (by decide +kernel) (pa_cons (pv 1) pa_nil)) (nomark _))))) (pss_one (ps_ret pe_bl)) pss_nil) (pss_cons (ps_for (passes_of rfl) rfl (pi_zipK rfl rfl T.n_zip (pa_cons (pv 0) (pa_cons (pv 1) pa_nil))) (pg_tup rfl (pgs_cons (pg_name (i := 2) sc_u_law_is_list.nd rfl (Or.inl rfl)) (pgs_cons (pg_name (i := 3) sc_u_law_is_list.nd rfl (Or.inl rfl)) pgs_nil))) (pss_one (ps_if (PW.pt (pw_or (pt_not (pt_val (pe_callS G_u_law_integer (hr.mono (by decide)) rfl T.g_u_law_integer F_u_law_integer.kp b_u_law_integer (fun σ => passAt (takes_of rfl rfl rfl rfl) σ) (pa_cons (pv 2) pa_nil)))) (pw_or1 (pt_cmpR (op_neD (Room.units hr)) (pv 2) (pv 3) (nomark _))))) (pss_one (ps_ret pe_bl)) pss_nil))) (pss_one (ps_ret pe_bl)))), ?_⟩
  rintro ⟨found_, due_, ⟨⟩⟩ F0 H0 Q KP L
  show Blk K F0 H0 KP _ [iM found_, iM due_, none, none] (m_u_law_is_list found_ due_)
  unfold m_u_law_is_list
  have ht_ := ((et_or (et_not (et_B (ev_isi isi_list (ev_var (i := 0) (x := found_) rfl)))) (et_test (ev_op opx_neI mild_ok (ev_lenD (ev_var (i := 0) (x := found_) rfl)) (ev_cb cx_len (fun _ _ h => nomatch h) (ea_cons (ev_var (i := 1) (x := due_) rfl) ea_nil))))) : EvT K (W0 E) [iM found_, iM due_, none, none] _ _)
  refine blk_seq (blk_if2 L trivial (by exact ht_) ?_ ?_)
  · have hr_ := ((ev_bl (b := false)) : EvX K (W0 E) [iM found_, iM due_, none, none] _ _)
    exact blk_ret L trivial (by exact hr_)
  · refine blk_nil ?_
    try refine Blk.nx ?_
    have hi_ := ((ei_zip (ea_cons (ev_cast (f := D.asList) asList_ok asList_x (ev_var (i := 0) (x := found_) rfl)) (ea_cons (ev_var (i := 1) (x := due_) rfl) ea_nil))) : EvI K (W0 E) [iM found_, iM due_, none, none] _ _)
    refine blk_seq (blk_for (S := Unit) (m_u_law_is_list_l2 (m_u_law_is_list_k3)) (m_u_law_is_list_k3) (fun _ => [iM found_, iM due_, none, none]) () L trivial (by exact hi_) (fun _ => (gx_tup (n := 2) (gxs_cons gx_name (gxs_cons gx_name gxs_nil)) rfl)) (.same (.same (.same (.same .nil)))) (fun _ => rfl) ?_ ?_)
    · intro F2 L2 hB2 x128 r2 s_ N_ hN2
      obtain ⟨⟩ := s_
      show Blk _ _ _ _ _ [iM found_, iM due_, iM x128.a, iM x128.b] (m_u_law_is_list_l2 (m_u_law_is_list_k3) (x128 :: r2) ())
      rw [m_u_law_is_list_l2]
      show Blk _ _ _ _ _ _ ((fun (one_ : D) (other_ : Int) => _) x128.a x128.b)
      generalize x128.a = one_
      generalize x128.b = other_
      show Blk _ _ _ _ _ [iM found_, iM due_, iM one_, iM other_] _
      have ht_ := ((et_or (et_not (et_B (ev_call (f := (fun (p : D × Unit) => m_u_law_integer p.1)) (ea_cons (ev_var (i := 2) (x := one_) rfl) ea_nil)))) (et_test (ev_op opx_neD mild_need (ev_var (i := 2) (x := one_) rfl) (ev_var (i := 3) (x := other_) rfl)))) : EvT K (W0 E) [iM found_, iM due_, iM one_, iM other_] _ _)
      refine blk_if2 L2 trivial (by exact ht_) ?_ ?_
      · have hr_ := ((ev_bl (b := false)) : EvX K (W0 E) [iM found_, iM due_, iM one_, iM other_] _ _)
        exact blk_ret L2 trivial (by exact hr_)
      · refine blk_nil ?_
        try refine Blk.nx ?_
        exact (hN2 ()).weak (.same (.same (.drop (.drop .nil))))
    · intro _
      show Blk _ _ _ _ _ [iM found_, iM due_, none, none] ((m_u_law_is_list_k3) ())
      unfold m_u_law_is_list_k3
      try refine Blk.nx ?_
      have hr_ := ((ev_bl (b := true)) : EvX K (W0 E) [iM found_, iM due_, none, none] _ _)
      exact blk_ret L trivial (by exact hr_)
noncomputable def m_u_law_length (size_ : Int) : Res (List Int) :=
  ((Res.ok (decide (size_ < (128 : Int))))).bind fun b => cond b   ((Res.ok ([size_] : List Int)))   (((Res.ok (decide (size_ < (256 : Int))))).bind fun b => cond b   ((Res.ok ([(129 : Int), size_] : List Int)))   ((Res.ok ([(130 : Int), (size_ / (256 : Int)), (size_ % (256 : Int))] : List Int))))
theorem ok_u_law_length {P : Program} {w : World} {K : PySem.W.Frag} {mg : Str → Option Value} {base : Heap} (T : Facts P w K mg) {fd : FuncData} (F : FnP K "_law_length" "_law_length" s_u_law_length (He.ga K "_law_length") fd) :
    FnOk P w K mg base (L2.CX P w) 1 (He.ga K "_law_length") fd ["size"] (spM K (fun (p : Int × Unit) => m_u_law_length p.1)) := by
  refine fn_ok F sc_u_law_length (fun y => rfl) (fun cdv A outer s H E hr => ?_)
  refine ⟨_, (pss_cons (ps_if (pt_cmpR op_lt (pv 0) pe_int (nomark _)) (pss_one (ps_ret (pe_lst (pa_cons (pv 0) pa_nil)))) pss_nil) (pss_cons (ps_if (pt_cmpR op_lt (pv 0) pe_int (nomark _)) (pss_one (ps_ret (pe_lst (pa_cons pe_int (pa_cons (pv 0) pa_nil))))) pss_nil) (pss_one (ps_ret (pe_lst (pa_cons pe_int (pa_cons (pe_op op_fdiv (pv 0) pe_int) (pa_cons (pe_op op_mod (pv 0) pe_int) pa_nil)))))))), ?_⟩
  rintro ⟨size_, ⟨⟩⟩ F0 H0 Q KP L
  show Blk K F0 H0 KP _ [iM size_] (m_u_law_length size_)
  unfold m_u_law_length
  have ht_ := ((et_test (ev_op (opx_B0 (g := fun i j => decide (i < j))) mild_ok (ev_var (i := 0) (x := size_) rfl) (ev_int (i := 128)))) : EvT K (W0 E) [iM size_] _ _)
  refine blk_seq (blk_if2 L trivial (by exact ht_) ?_ ?_)
  · have hr_ := ((ev_ofN (en_lst (f := (fun y => ([y.1] : List Int))) (ea_cons (ev_var (i := 0) (x := size_) rfl) ea_nil) (fun _ => rfl) (fun _ => by show 1 ≤ 100000; decide))) : EvX K (W0 E) [iM size_] _ _)
    exact blk_ret L trivial (by exact hr_)
  · refine blk_nil ?_
    try refine Blk.nx ?_
    have ht_ := ((et_test (ev_op (opx_B0 (g := fun i j => decide (i < j))) mild_ok (ev_var (i := 0) (x := size_) rfl) (ev_int (i := 256)))) : EvT K (W0 E) [iM size_] _ _)
    refine blk_seq (blk_if2 L trivial (by exact ht_) ?_ ?_)
    · have hr_ := ((ev_ofN (en_lst (f := (fun y => ([y.1, y.2.1] : List Int))) (ea_cons (ev_int (i := 129)) (ea_cons (ev_var (i := 0) (x := size_) rfl) ea_nil)) (fun _ => rfl) (fun _ => by show 2 ≤ 100000; decide))) : EvX K (W0 E) [iM size_] _ _)
      exact blk_ret L trivial (by exact hr_)
    · refine blk_nil ?_
      try refine Blk.nx ?_
      have hr_ := ((ev_ofN (en_lst (f := (fun y => ([y.1, y.2.1, y.2.2.1] : List Int))) (ea_cons (ev_int (i := 130)) (ea_cons (ev_opI (C := CDiv) (g := fun i j => i / j) (fun x y _ h => by cases h; exact ⟨by decide, by decide⟩) (ev_var (i := 0) (x := size_) rfl) (ev_int (i := 256))) (ea_cons (ev_opI (C := (fun _ j => 0 < j)) (g := fun i j => i % j) (fun x y _ h => by cases h; (show (0 : Int) < _; decide)) (ev_var (i := 0) (x := size_) rfl) (ev_int (i := 256))) ea_nil))) (fun _ => rfl) (fun _ => by show 3 ≤ 100000; decide))) : EvX K (W0 E) [iM size_] _ _)
      exact blk_ret L trivial (by exact hr_)
noncomputable def m_u_law_form_l1 (k1 : (List Int) × Int → Res (List Int)) : List Int → (List Int) × Int → Res (List Int)
  | [], s => k1 s
  | x132 :: r1, (content_, left_) =>   (fun (turn_ : Int) => (Res.need (([(left_ % (256 : Int))] : List Int).length + content_.length ≤ 16777216) (Res.ok (([(left_ % (256 : Int))] : List Int) ++ content_))).bind fun (content_ : (List Int)) =>   ((Res.ok (left_ / (256 : Int)))).bind fun (left_ : Int) =>   ((Res.ok (decide (left_ = (0 : Int))))).bind fun b => cond b   (k1 (content_, left_))   (m_u_law_form_l1 k1 r1 (content_, left_))) x132
noncomputable def m_u_law_form_k2  : (List Int) → Res (List Int) := fun content_ =>   ((m_u_law_length ((content_).length : Int)).bind fun (t134 : (List Int)) => Res.need (([(2 : Int)] : List Int).length + t134.length ≤ 16777216) (Res.ok (([(2 : Int)] : List Int) ++ t134))).bind fun (t135 : (List Int)) => Res.need (t135.length + content_.length ≤ 16777216) (Res.ok (t135 ++ content_))
noncomputable def m_u_law_form_k3 : (List Int) × Int → Res (List Int) := fun (content_, left_) =>   ((idx content_ (0 : Int)).bind fun (t133 : Int) => Res.ok (decide ((128 : Int) ≤ t133))).bind fun b => cond b   ((Res.need (([(0 : Int)] : List Int).length + content_.length ≤ 16777216) (Res.ok (([(0 : Int)] : List Int) ++ content_))).bind fun (content_ : (List Int)) =>   m_u_law_form_k2 content_)   (m_u_law_form_k2 content_)
noncomputable def m_u_law_form (number_ : Int) : Res (List Int) :=
  ((Res.ok ([] : List Int))).bind fun (content_ : (List Int)) =>   ((Res.ok number_)).bind fun (left_ : Int) =>   (Res.need (okRange (90 : Int)) (Res.ok (pyRange 0 (90 : Int)))).bind fun (xs136 : List Int) => m_u_law_form_l1 (m_u_law_form_k3) xs136 (content_, left_)
theorem ok_u_law_form {P : Program} {w : World} {K : PySem.W.Frag} {mg : Str → Option Value} {base : Heap} (T : Facts P w K mg) {fd : FuncData} (F : FnP K "_law_form" "_law_form" s_u_law_form (He.ga K "_law_form") fd) :
    FnOk P w K mg base (L2.CX P w) 2 (He.ga K "_law_form") fd ["number"] (spM K (fun (p : Int × Unit) => m_u_law_form p.1)) := by
  obtain ⟨fd_u_law_length, F_u_law_length⟩ := T.d_u_law_length
  have G_u_law_length := ok_u_law_length (P := P) (w := w) (base := base) T F_u_law_length
  have b_u_law_length : Binds K fd_u_law_length ["size"] [] := F_u_law_length.bindsN fun _ _ _ _ _ _ us hl => match us, hl with | [_], _ => rfl
  refine fn_ok F sc_u_law_form (fun y => rfl) (fun cdv A outer s H E hr => ?_)
  refine ⟨_, (pss_cons (ps_set (i := 1) sc_u_law_form.nd rfl (Or.inl rfl) (pe_lst pa_nil)) (pss_cons (ps_set (i := 2) sc_u_law_form.nd rfl (Or.inl rfl) (pv 0)) (pss_cons (ps_for (passes_of rfl) rfl (pi_range1 rfl T.n_range (pa_cons pe_int pa_nil)) (pg_name (i := 3) sc_u_law_form.nd rfl (Or.inl rfl)) (pss_cons (ps_set (i := 1) sc_u_law_form.nd rfl (Or.inl rfl) (pe_op op_cat (pe_lst (pa_cons (pe_op op_mod (pv 2) pe_int) pa_nil)) (pv 1))) (pss_cons (ps_set (i := 2) sc_u_law_form.nd rfl (Or.inl rfl) (pe_op op_fdiv (pv 2) pe_int)) (pss_one (ps_if (pt_cmpR op_eq (pv 2) pe_int (nomark _)) (pss_one ps_break) pss_nil))))) (pss_cons (ps_if (pt_cmpR op_ge (pe_ix (cr_ixL rfl) (pv 1) pe_int (fun _ _ => rfl)) pe_int (nomark _)) (pss_one (ps_set (i := 1) sc_u_law_form.nd rfl (Or.inl rfl) (pe_op op_cat (pe_lst (pa_cons pe_int pa_nil)) (pv 1)))) pss_nil) (pss_one (ps_ret (pe_op op_cat (pe_op op_cat (pe_lst (pa_cons pe_int pa_nil)) (pe_callS G_u_law_length (hr.mono (by decide)) rfl T.g_u_law_length F_u_law_length.kp b_u_law_length (fun σ => passAt (takes_of rfl rfl rfl rfl) σ) (pa_cons (pe_callB (cr_len rfl) (by rfl) T.n_len (by decide +kernel) (pa_cons (pv 1) pa_nil)) pa_nil))) (pv 1)))))))), ?_⟩
  rintro ⟨number_, ⟨⟩⟩ F0 H0 Q KP L
  show Blk K F0 H0 KP _ [iM number_, none, none, none] (m_u_law_form number_)
  unfold m_u_law_form
  have hs_ := ((ev_ofN (en_lst (f := (fun y => ([] : List Int))) ea_nil (fun _ => rfl) (fun _ => by show 0 ≤ 100000; decide))) : EvX K (W0 E) [iM number_, none, none, none] _ _)
  refine blk_seq (blk_set (i := 1) L trivial (by exact hs_) fun content_ => ?_)
  show Blk _ _ _ _ _ [iM number_, iM content_, none, none] _
  try refine Blk.nx ?_
  have hs_ := ((ev_var (i := 0) (x := number_) rfl) : EvX K (W0 E) [iM number_, iM content_, none, none] _ _)
  refine blk_seq (blk_set (i := 2) L trivial (by exact hs_) fun left_ => ?_)
  show Blk _ _ _ _ _ [iM number_, iM content_, iM left_, none] _
  try refine Blk.nx ?_
  have hi_ := ((ei_range1 (ev_int (i := 90))) : EvI K (W0 E) [iM number_, iM content_, iM left_, none] _ _)
  refine blk_seq (blk_for (S := (List Int) × Int) (m_u_law_form_l1 (m_u_law_form_k3)) (m_u_law_form_k3) (fun (content_, left_) => [iM number_, iM content_, iM left_, none]) (content_, left_) L trivial (by exact hi_) (fun _ => gx_name) (.same (.same (.same (.same .nil)))) (fun _ => rfl) ?_ ?_)
  · intro F1 L1 hB1 x132 r1 s_ N_ hN1
    obtain ⟨content_, left_⟩ := s_
    show Blk _ _ _ _ _ [iM number_, iM content_, iM left_, iM x132] (m_u_law_form_l1 (m_u_law_form_k3) (x132 :: r1) (content_, left_))
    rw [m_u_law_form_l1]
    show Blk _ _ _ _ _ _ ((fun (turn_ : Int) => _) x132)
    generalize x132 = turn_
    show Blk _ _ _ _ _ [iM number_, iM content_, iM left_, iM turn_] _
    have hs_ := ((ev_ofN (en_cat (ev_ofN (en_lst (f := (fun y => ([y.1] : List Int))) (ea_cons (ev_opI (C := (fun _ j => 0 < j)) (g := fun i j => i % j) (fun x y _ h => by cases h; (show (0 : Int) < _; decide)) (ev_var (i := 2) (x := left_) rfl) (ev_int (i := 256))) ea_nil) (fun _ => rfl) (fun _ => by show 1 ≤ 100000; decide))) (ev_var (i := 1) (x := content_) rfl))) : EvX K (W0 E) [iM number_, iM content_, iM left_, iM turn_] _ _)
    refine blk_seq (blk_set (i := 1) L1 trivial (by exact hs_) fun content_ => ?_)
    show Blk _ _ _ _ _ [iM number_, iM content_, iM left_, iM turn_] _
    try refine Blk.nx ?_
    have hs_ := ((ev_opI (C := CDiv) (g := fun i j => i / j) (fun x y _ h => by cases h; exact ⟨by decide, by decide⟩) (ev_var (i := 2) (x := left_) rfl) (ev_int (i := 256))) : EvX K (W0 E) [iM number_, iM content_, iM left_, iM turn_] _ _)
    refine blk_seq (blk_set (i := 2) L1 trivial (by exact hs_) fun left_ => ?_)
    show Blk _ _ _ _ _ [iM number_, iM content_, iM left_, iM turn_] _
    try refine Blk.nx ?_
    have ht_ := ((et_test (ev_op opx_eqI mild_ok (ev_var (i := 2) (x := left_) rfl) (ev_int (i := 0)))) : EvT K (W0 E) [iM number_, iM content_, iM left_, iM turn_] _ _)
    refine blk_if2 L1 trivial (by exact ht_) ?_ ?_
    · exact (hB1 (content_, left_)).weak (.same (.same (.same (.drop .nil))))
    · refine blk_nil ?_
      try refine Blk.nx ?_
      exact (hN1 (content_, left_)).weak (.same (.same (.same (.drop .nil))))
  · rintro ⟨content_, left_⟩
    show Blk _ _ _ _ _ [iM number_, iM content_, iM left_, none] ((m_u_law_form_k3) (content_, left_))
    unfold m_u_law_form_k3
    try refine Blk.nx ?_
    have ht_ := ((et_test (ev_op (opx_B0 (g := fun i j => decide (j ≤ i))) mild_ok (ev_op opx_ixL (fun x y => idx_mild x y) (ev_var (i := 1) (x := content_) rfl) (ev_int (i := 0))) (ev_int (i := 128)))) : EvT K (W0 E) [iM number_, iM content_, iM left_, none] _ _)
    refine blk_seq (blk_ifj (S := (List Int)) (fun content_ => [iM number_, iM content_, iM left_, none]) m_u_law_form_k2 L trivial (by exact ht_) ?_ ?_ ?_)
    · intro content_
      show Blk _ _ _ _ _ [iM number_, iM content_, iM left_, none] (m_u_law_form_k2 content_)
      unfold m_u_law_form_k2
      try refine Blk.nx ?_
      have hr_ := ((ev_ofN (en_cat (ev_ofN (en_cat (ev_ofN (en_lst (f := (fun y => ([y.1] : List Int))) (ea_cons (ev_int (i := 2)) ea_nil) (fun _ => rfl) (fun _ => by show 1 ≤ 100000; decide))) (ev_call (f := (fun (p : Int × Unit) => m_u_law_length p.1)) (ea_cons (ev_cb cx_len (fun _ _ h => nomatch h) (ea_cons (ev_var (i := 1) (x := content_) rfl) ea_nil)) ea_nil)))) (ev_var (i := 1) (x := content_) rfl))) : EvX K (W0 E) [iM number_, iM content_, iM left_, none] _ _)
      exact blk_ret L trivial (by exact hr_)
    · intro hk2
      have hs_ := ((ev_ofN (en_cat (ev_ofN (en_lst (f := (fun y => ([y.1] : List Int))) (ea_cons (ev_int (i := 0)) ea_nil) (fun _ => rfl) (fun _ => by show 1 ≤ 100000; decide))) (ev_var (i := 1) (x := content_) rfl))) : EvX K (W0 E) [iM number_, iM content_, iM left_, none] _ _)
      refine blk_set (i := 1) L trivial (by exact hs_) fun content_ => ?_
      show Blk _ _ _ _ _ [iM number_, iM content_, iM left_, none] _
      try refine Blk.nx ?_
      exact (hk2 content_).weak (.same (.same (.same (.same .nil))))
    · intro hk2
      refine blk_nil ?_
      try refine Blk.nx ?_
      exact (hk2 content_).weak (.same (.same (.same (.same .nil))))
noncomputable def m_u_law_tree_l2 (rec_ : D → Res (List Int)) (k2 : (List Int) → Res (List Int)) : List D → (List Int) → Res (List Int)
  | [], s => k2 s
  | x142 :: r2, content_ =>   (fun (item_ : D) => ((rec_ item_).bind fun (t143 : (List Int)) => Res.need (content_.length + t143.length ≤ 16777216) (Res.ok (content_ ++ t143))).bind fun (content_ : (List Int)) =>   m_u_law_tree_l2 rec_ k2 r2 content_) x142
noncomputable def m_u_law_tree_k3 : (List Int) → Res (List Int) := fun content_ =>   ((m_u_law_length ((content_).length : Int)).bind fun (t144 : (List Int)) => Res.need (([(48 : Int)] : List Int).length + t144.length ≤ 16777216) (Res.ok (([(48 : Int)] : List Int) ++ t144))).bind fun (t145 : (List Int)) => Res.need (t145.length + content_.length ≤ 16777216) (Res.ok (t145 ++ content_))
noncomputable def m_u_law_tree_b (rec_ : D → Res (List Int)) (value_ : D) : Res (List Int) :=
  ((Res.need ((toD value_).plain = true) (Res.ok (isI "tuple" (toD value_)))).bind fun (t137 : Bool) => Res.ok (!t137)).bind fun b => cond b   (((((Res.ok value_)).bind D.asInt).bind fun a138 => Res.ok (a138, ())).bind fun p140 => m_u_law_form p140.1)   (((Res.ok ([] : List Int))).bind fun (content_ : (List Int)) =>   ((((Res.ok value_)).bind D.asTu).bind fun (t141 : (Tu D)) => Res.ok (t141).xs).bind fun (xs146 : List D) => m_u_law_tree_l2 rec_ (m_u_law_tree_k3) xs146 content_)
noncomputable def m_u_law_tree : Nat → D → Res (List Int)
  | 0, _ => Res.stuck
  | n_ + 1, value_ => m_u_law_tree_b (m_u_law_tree n_) value_
theorem ok_u_law_tree {P : Program} {w : World} {K : PySem.W.Frag} {mg : Str → Option Value} {base : Heap} (T : Facts P w K mg) {fd : FuncData} (F : FnP K "_law_tree" "_law_tree" s_u_law_tree (He.ga K "_law_tree") fd) : ∀ n_ : Nat,
    FnOk P w K mg base (L2.CX P w) (2 + n_) (He.ga K "_law_tree") fd ["value"] (spM K (fun (p : D × Unit) => m_u_law_tree n_ p.1)) := by
  obtain ⟨fd_u_law_form, F_u_law_form⟩ := T.d_u_law_form
  have G_u_law_form := ok_u_law_form (P := P) (w := w) (base := base) T F_u_law_form
  have b_u_law_form : Binds K fd_u_law_form ["number"] [] := F_u_law_form.bindsN fun _ _ _ _ _ _ us hl => match us, hl with | [_], _ => rfl
  obtain ⟨fd_u_law_length, F_u_law_length⟩ := T.d_u_law_length
  have G_u_law_length := ok_u_law_length (P := P) (w := w) (base := base) T F_u_law_length
  have b_u_law_length : Binds K fd_u_law_length ["size"] [] := F_u_law_length.bindsN fun _ _ _ _ _ _ us hl => match us, hl with | [_], _ => rfl
  have b_u_law_tree : Binds K fd ["value"] [] := F.bindsN fun _ _ _ _ _ _ us hl => match us, hl with | [_], _ => rfl
  have F_u_law_tree := F
  intro n_
  induction n_ with
  | zero => exact fnok_stuck _ (fun _ => rfl)
  | succ n_ G_u_law_tree =>
  refine fn_ok (k := 2 + n_) F sc_u_law_tree (fun y => rfl) (fun cdv A outer s H E hr => ?_)
  refine ⟨_, (pss_cons (ps_if (pt_not (pt_val (pe_callB call_isi (by rfl) T.n_isinstance (by decide +kernel) (pa_cons (pv 0) (pa_cons (pe_bltn (v := .ty "tuple") (by rfl) T.n_tuple (by decide +kernel) rfl) pa_nil))))) (pss_one (ps_ret (pe_callS G_u_law_form (hr.mono (by omega)) rfl T.g_u_law_form F_u_law_form.kp b_u_law_form (fun σ => passAt (takes_of rfl rfl rfl rfl) σ) (pa_cons (pv 0) pa_nil)))) pss_nil) (pss_cons (ps_set (i := 1) sc_u_law_tree.nd rfl (Or.inl rfl) (pe_lst pa_nil)) (pss_cons (ps_for (passes_of rfl) rfl (pi_tup (pv 0)) (pg_name (i := 2) sc_u_law_tree.nd rfl (Or.inl rfl)) (pss_one (ps_set (i := 1) sc_u_law_tree.nd rfl (Or.inl rfl) (pe_op op_cat (pv 1) (pe_callS G_u_law_tree (hr.mono (by omega)) rfl T.g_u_law_tree F_u_law_tree.kp b_u_law_tree (fun σ => passAt (takes_of rfl rfl rfl rfl) σ) (pa_cons (pv 2) pa_nil)))))) (pss_one (ps_ret (pe_op op_cat (pe_op op_cat (pe_lst (pa_cons pe_int pa_nil)) (pe_callS G_u_law_length (hr.mono (by omega)) rfl T.g_u_law_length F_u_law_length.kp b_u_law_length (fun σ => passAt (takes_of rfl rfl rfl rfl) σ) (pa_cons (pe_callB (cr_len rfl) (by rfl) T.n_len (by decide +kernel) (pa_cons (pv 1) pa_nil)) pa_nil))) (pv 1))))))), ?_⟩
  rintro ⟨value_, ⟨⟩⟩ F0 H0 Q KP L
  show Blk K F0 H0 KP _ [iM value_, none, none] (m_u_law_tree_b (m_u_law_tree n_) value_)
  unfold m_u_law_tree_b
  have ht_ := ((et_not (et_B (ev_isi isi_tuple (ev_var (i := 0) (x := value_) rfl)))) : EvT K (W0 E) [iM value_, none, none] _ _)
  refine blk_seq (blk_if2 L trivial (by exact ht_) ?_ ?_)
  · have hr_ := ((ev_call (f := (fun (p : Int × Unit) => m_u_law_form p.1)) (ea_cons (ev_cast (f := D.asInt) asInt_ok asInt_x (ev_var (i := 0) (x := value_) rfl)) ea_nil)) : EvX K (W0 E) [iM value_, none, none] _ _)
    exact blk_ret L trivial (by exact hr_)
  · refine blk_nil ?_
    try refine Blk.nx ?_
    have hs_ := ((ev_ofN (en_lst (f := (fun y => ([] : List Int))) ea_nil (fun _ => rfl) (fun _ => by show 0 ≤ 100000; decide))) : EvX K (W0 E) [iM value_, none, none] _ _)
    refine blk_seq (blk_set (i := 1) L trivial (by exact hs_) fun content_ => ?_)
    show Blk _ _ _ _ _ [iM value_, iM content_, none] _
    try refine Blk.nx ?_
    have hi_ := ((ei_tup (ev_cast (f := D.asTu) asTu_ok asTu_x (ev_var (i := 0) (x := value_) rfl))) : EvI K (W0 E) [iM value_, iM content_, none] _ _)
    refine blk_seq (blk_for (S := (List Int)) (m_u_law_tree_l2 (m_u_law_tree n_) (m_u_law_tree_k3)) (m_u_law_tree_k3) (fun content_ => [iM value_, iM content_, none]) content_ L trivial (by exact hi_) (fun _ => gx_name) (.same (.same (.same .nil))) (fun _ => rfl) ?_ ?_)
    · intro F2 L2 hB2 x142 r2 s_ N_ hN2
      revert s_; intro content_
      show Blk _ _ _ _ _ [iM value_, iM content_, iM x142] (m_u_law_tree_l2 (m_u_law_tree n_) (m_u_law_tree_k3) (x142 :: r2) content_)
      rw [m_u_law_tree_l2]
      show Blk _ _ _ _ _ _ ((fun (item_ : D) => _) x142)
      generalize x142 = item_
      show Blk _ _ _ _ _ [iM value_, iM content_, iM item_] _
      have hs_ := ((ev_ofN (en_cat (ev_var (i := 1) (x := content_) rfl) (ev_call (f := (fun (p : D × Unit) => (m_u_law_tree n_) p.1)) (ea_cons (ev_var (i := 2) (x := item_) rfl) ea_nil)))) : EvX K (W0 E) [iM value_, iM content_, iM item_] _ _)
      refine blk_set (i := 1) L2 trivial (by exact hs_) fun content_ => ?_
      show Blk _ _ _ _ _ [iM value_, iM content_, iM item_] _
      try refine Blk.nx ?_
      exact (hN2 content_).weak (.same (.same (.drop .nil)))
    · intro content_
      show Blk _ _ _ _ _ [iM value_, iM content_, none] ((m_u_law_tree_k3) content_)
      unfold m_u_law_tree_k3
      try refine Blk.nx ?_
      have hr_ := ((ev_ofN (en_cat (ev_ofN (en_cat (ev_ofN (en_lst (f := (fun y => ([y.1] : List Int))) (ea_cons (ev_int (i := 48)) ea_nil) (fun _ => rfl) (fun _ => by show 1 ≤ 100000; decide))) (ev_call (f := (fun (p : Int × Unit) => m_u_law_length p.1)) (ea_cons (ev_cb cx_len (fun _ _ h => nomatch h) (ea_cons (ev_var (i := 1) (x := content_) rfl) ea_nil)) ea_nil)))) (ev_var (i := 1) (x := content_) rfl))) : EvX K (W0 E) [iM value_, iM content_, none] _ _)
      exact blk_ret L trivial (by exact hr_)
noncomputable def m_u_law_value_l2 (cell_ : Int) (k_ : Int) (deep_ : Int) (most_ : Int) (count_ : Int) (rec_ : Int → Int → Int → Int → Res D) (k2 : (List D) → Res D) : List Int → (List D) → Res D
  | [], s => k2 s
  | x149 :: r2, items_ =>   (fun (j_ : Int) => ((((((Res.need (CDivW most_ (max (1 : Int) count_)) (Res.ok (most_ / (max (1 : Int) count_)))).bind fun a150 => Res.ok (a150, ())).bind fun a153 => Res.ok ((deep_ - (1 : Int)), a153)).bind fun a155 => Res.ok (((((5 : Int) * k_) + j_) + (1 : Int)), a155)).bind fun a157 => Res.ok (cell_, a157)).bind fun p158 => rec_ p158.1 p158.2.1 p158.2.2.1 p158.2.2.2.1).bind fun (y159 : D) => Res.need (items_.length < 16777216) ((fun (items_ : (List D)) =>   m_u_law_value_l2 cell_ k_ deep_ most_ count_ rec_ k2 r2 items_) (items_ ++ [y159]))) x149
noncomputable def m_u_law_value_k3 : (List D) → Res D := fun items_ =>   (Res.ok (toD (Tu.mk items_)))
noncomputable def m_u_law_value_b (rec_ : Int → Int → Int → Int → Res D) (cell_ : Int) (k_ : Int) (deep_ : Int) (most_ : Int) : Res D :=
  (m_u_law_twice cell_ k_).bind fun (draw_ : Int) =>   (cond (decide (deep_ = (0 : Int))) (Res.ok true) (cond (decide ((draw_ % (3 : Int)) = (0 : Int))) (Res.ok true) ((Res.ok (decide (most_ ≤ (1 : Int))))))).bind fun b => cond b   ((((idx ([(1 : Int), (7 : Int), (8 : Int), (15 : Int), (64 : Int), (520 : Int)] : List Int) ((draw_ / (3 : Int)) % (6 : Int))).bind fun (t147 : Int) => Res.need (CShl (1 : Int) t147) (Res.ok ((1 : Int) * 2 ^ t147.toNat))).bind fun (t148 : Int) => Res.need (0 < t148) (Res.ok (((Int.natAbs cell_ : Int) + draw_) % t148))).bind fun (x : Int) => Res.ok (toD x))   (((Res.ok ([] : List D))).bind fun (items_ : (List D)) =>   ((Res.ok ((draw_ / (30 : Int)) % (4 : Int)))).bind fun (count_ : Int) =>   (Res.need (okRange count_) (Res.ok (pyRange 0 count_))).bind fun (xs161 : List Int) => m_u_law_value_l2 cell_ k_ deep_ most_ count_ rec_ (m_u_law_value_k3) xs161 items_)
noncomputable def m_u_law_value : Nat → Int → Int → Int → Int → Res D
  | 0, _, _, _, _ => Res.stuck
  | n_ + 1, cell_, k_, deep_, most_ => m_u_law_value_b (m_u_law_value n_) cell_ k_ deep_ most_
theorem ok_u_law_value {P : Program} {w : World} {K : PySem.W.Frag} {mg : Str → Option Value} {base : Heap} (T : Facts P w K mg) {fd : FuncData} (F : FnP K "_law_value" "_law_value" s_u_law_value (He.ga K "_law_value") fd) : ∀ n_ : Nat,
    FnOk P w K mg base (L2.CX P w) (1 + n_) (He.ga K "_law_value") fd ["cell", "k", "deep", "most"] (spM K (fun (p : Int × Int × Int × Int × Unit) => m_u_law_value n_ p.1 p.2.1 p.2.2.1 p.2.2.2.1)) := by
  obtain ⟨fd_u_law_twice, F_u_law_twice⟩ := T.d_u_law_twice
  have G_u_law_twice := ok_u_law_twice (P := P) (w := w) (base := base) T F_u_law_twice
  have b_u_law_twice : Binds K fd_u_law_twice ["cell", "k"] [] := F_u_law_twice.bindsN fun _ _ _ _ _ _ us hl => match us, hl with | [_, _], _ => rfl
  have b_u_law_value : Binds K fd ["cell", "k", "deep", "most"] [] := F.bindsN fun _ _ _ _ _ _ us hl => match us, hl with | [_, _, _, _], _ => rfl
  have F_u_law_value := F
  intro n_
  induction n_ with
  | zero => exact fnok_stuck _ (fun _ => rfl)
  | succ n_ G_u_law_value =>
  refine fn_ok (k := 1 + n_) F sc_u_law_value (fun y => rfl) (fun cdv A outer s H E hr => ?_)
  refine ⟨_, (pss_cons (ps_set (i := 4) sc_u_law_value.nd rfl (Or.inl rfl) (pe_callS G_u_law_twice (hr.mono (by omega)) rfl T.g_u_law_twice F_u_law_twice.kp b_u_law_twice (fun σ => passAt (takes_of rfl rfl rfl rfl) σ) (pa_cons (pv 0) (pa_cons (pv 1) pa_nil)))) (pss_cons (ps_if (PW.pt (pw_or (pt_cmpR op_eq (pv 2) pe_int (nomark _)) (pw_or (pt_cmpR op_eq (pe_op op_mod (pv 4) pe_int) pe_int (nomark _)) (pw_or1 (pt_cmpR op_le (pv 3) pe_int (nomark _)))))) (pss_one (ps_ret (pe_op op_mod (pe_op op_add (pe_callB call_abs (by rfl) T.n_abs (by decide +kernel) (pa_cons (pv 0) pa_nil)) (pv 4)) (pe_op op_shlW pe_int (pe_ix (cr_ixL rfl) (pe_lst (pa_cons pe_int (pa_cons pe_int (pa_cons pe_int (pa_cons pe_int (pa_cons pe_int (pa_cons pe_int pa_nil))))))) (pe_op op_mod (pe_op op_fdiv (pv 4) pe_int) pe_int) (fun _ _ => rfl)))))) pss_nil) (pss_cons (ps_set (i := 5) sc_u_law_value.nd rfl (Or.inl rfl) (pe_lst pa_nil)) (pss_cons (ps_set (i := 6) sc_u_law_value.nd rfl (Or.inl rfl) (pe_op op_mod (pe_op op_fdiv (pv 4) pe_int) pe_int)) (pss_cons (ps_for (passes_of rfl) rfl (pi_range1 rfl T.n_range (pa_cons (pv 6) pa_nil)) (pg_name (i := 7) sc_u_law_value.nd rfl (Or.inl rfl)) (pss_one (ps_expr (pe_bm PySem.F.plainAttrs_list PySem.F.slot_list_append PySem.F.type_list_append mt_append (pv 5) (pa_cons (pe_callS G_u_law_value (hr.mono (by omega)) rfl T.g_u_law_value F_u_law_value.kp b_u_law_value (fun σ => passAt (takes_of rfl rfl rfl rfl) σ) (pa_cons (pv 0) (pa_cons (pe_op op_add (pe_op op_add (pe_op op_mul pe_int (pv 1)) (pv 7)) pe_int) (pa_cons (pe_op op_sub (pv 2) pe_int) (pa_cons (pe_op op_fdivW (pv 3) (pe_callB (call_max2 rfl) (by rfl) T.n_max (by decide +kernel) (pa_cons pe_int (pa_cons (pv 6) pa_nil)))) pa_nil))))) pa_nil))))) (pss_one (ps_ret (pe_callTy call_tuple_of (by rfl) T.n_tuple (by decide +kernel) (pa_cons (pv 5) pa_nil))))))))), ?_⟩
  rintro ⟨cell_, k_, deep_, most_, ⟨⟩⟩ F0 H0 Q KP L
  show Blk K F0 H0 KP _ [iM cell_, iM k_, iM deep_, iM most_, none, none, none, none] (m_u_law_value_b (m_u_law_value n_) cell_ k_ deep_ most_)
  unfold m_u_law_value_b
  have hs_ := ((ev_call (f := (fun (p : Int × Int × Unit) => m_u_law_twice p.1 p.2.1)) (ea_cons (ev_var (i := 0) (x := cell_) rfl) (ea_cons (ev_var (i := 1) (x := k_) rfl) ea_nil))) : EvX K (W0 E) [iM cell_, iM k_, iM deep_, iM most_, none, none, none, none] _ _)
  refine blk_seq (blk_set (i := 4) L trivial (by exact hs_) fun draw_ => ?_)
  show Blk _ _ _ _ _ [iM cell_, iM k_, iM deep_, iM most_, iM draw_, none, none, none] _
  try refine Blk.nx ?_
  have ht_ := ((et_or (et_test (ev_op opx_eqI mild_ok (ev_var (i := 2) (x := deep_) rfl) (ev_int (i := 0)))) (et_or (et_test (ev_op opx_eqI mild_ok (ev_opI (C := (fun _ j => 0 < j)) (g := fun i j => i % j) (fun x y _ h => by cases h; (show (0 : Int) < _; decide)) (ev_var (i := 4) (x := draw_) rfl) (ev_int (i := 3))) (ev_int (i := 0)))) (et_test (ev_op (opx_B0 (g := fun i j => decide (i ≤ j))) mild_ok (ev_var (i := 3) (x := most_) rfl) (ev_int (i := 1)))))) : EvT K (W0 E) [iM cell_, iM k_, iM deep_, iM most_, iM draw_, none, none, none] _ _)
  refine blk_seq (blk_if2 L trivial (by exact ht_) ?_ ?_)
  · have hr_ := ((ev_as (ev_op (opx_I (C := (fun _ j => 0 < j)) (g := fun i j => i % j)) mild_need (ev_op (opx_I0 (g := fun i j => i + j)) mild_ok (ev_cb cx_abs (fun _ _ h => nomatch h) (ea_cons (ev_var (i := 0) (x := cell_) rfl) ea_nil)) (ev_var (i := 4) (x := draw_) rfl)) (ev_op (opx_I (C := CShl) (g := fun i j => i * 2 ^ j.toNat)) mild_need (ev_int (i := 1)) (ev_op opx_ixL (fun x y => idx_mild x y) (ev_ofN (en_lst (f := (fun y => ([y.1, y.2.1, y.2.2.1, y.2.2.2.1, y.2.2.2.2.1, y.2.2.2.2.2.1] : List Int))) (ea_cons (ev_int (i := 1)) (ea_cons (ev_int (i := 7)) (ea_cons (ev_int (i := 8)) (ea_cons (ev_int (i := 15)) (ea_cons (ev_int (i := 64)) (ea_cons (ev_int (i := 520)) ea_nil)))))) (fun _ => rfl) (fun _ => by show 6 ≤ 100000; decide))) (ev_opI (C := (fun _ j => 0 < j)) (g := fun i j => i % j) (fun x y _ h => by cases h; (show (0 : Int) < _; decide)) (ev_opI (C := CDiv) (g := fun i j => i / j) (fun x y _ h => by cases h; exact ⟨by decide, by decide⟩) (ev_var (i := 4) (x := draw_) rfl) (ev_int (i := 3))) (ev_int (i := 6)))))) toD (fun _ => rfl) rfl) : EvX K (W0 E) [iM cell_, iM k_, iM deep_, iM most_, iM draw_, none, none, none] _ _)
    exact blk_ret L trivial (by exact hr_)
  · refine blk_nil ?_
    try refine Blk.nx ?_
    have hs_ := ((en_lst (f := (fun y => ([] : List D))) ea_nil (fun _ => rfl) (fun _ => by show 0 ≤ 100000; decide)) : EvN K (W0 E) [iM cell_, iM k_, iM deep_, iM most_, iM draw_, none, none, none] _ _)
    refine blk_seq (blk_own (i := 5) L trivial (by exact hs_) fun items_ => ?_)
    show Blk _ _ _ _ _ [iM cell_, iM k_, iM deep_, iM most_, iM draw_, oW items_, none, none] _
    try refine Blk.nx ?_
    have hs_ := ((ev_opI (C := (fun _ j => 0 < j)) (g := fun i j => i % j) (fun x y _ h => by cases h; (show (0 : Int) < _; decide)) (ev_opI (C := CDiv) (g := fun i j => i / j) (fun x y _ h => by cases h; exact ⟨by decide, by decide⟩) (ev_var (i := 4) (x := draw_) rfl) (ev_int (i := 30))) (ev_int (i := 4))) : EvX K (W0 E) [iM cell_, iM k_, iM deep_, iM most_, iM draw_, oW items_, none, none] _ _)
    refine blk_seq (blk_set (i := 6) L trivial (by exact hs_) fun count_ => ?_)
    show Blk _ _ _ _ _ [iM cell_, iM k_, iM deep_, iM most_, iM draw_, oW items_, iM count_, none] _
    try refine Blk.nx ?_
    have hi_ := ((ei_range1 (ev_var (i := 6) (x := count_) rfl)) : EvI K (W0 E) [iM cell_, iM k_, iM deep_, iM most_, iM draw_, oW items_, iM count_, none] _ _)
    refine blk_seq (blk_for (S := (List D)) (m_u_law_value_l2 cell_ k_ deep_ most_ count_ (m_u_law_value n_) (m_u_law_value_k3)) (m_u_law_value_k3) (fun items_ => [iM cell_, iM k_, iM deep_, iM most_, iM draw_, oW items_, iM count_, none]) items_ L trivial (by exact hi_) (fun _ => gx_name) (.same (.same (.same (.same (.same (.same (.same (.same .nil)))))))) (fun _ => rfl) ?_ ?_)
    · intro F2 L2 hB2 x149 r2 s_ N_ hN2
      revert s_; intro items_
      show Blk _ _ _ _ _ [iM cell_, iM k_, iM deep_, iM most_, iM draw_, oW items_, iM count_, iM x149] (m_u_law_value_l2 cell_ k_ deep_ most_ count_ (m_u_law_value n_) (m_u_law_value_k3) (x149 :: r2) items_)
      rw [m_u_law_value_l2]
      show Blk _ _ _ _ _ _ ((fun (j_ : Int) => _) x149)
      generalize x149 = j_
      show Blk _ _ _ _ _ [iM cell_, iM k_, iM deep_, iM most_, iM draw_, oW items_, iM count_, iM j_] _
      have hs_ := ((ev_call (f := (fun (p : Int × Int × Int × Int × Unit) => (m_u_law_value n_) p.1 p.2.1 p.2.2.1 p.2.2.2.1)) (ea_cons (ev_var (i := 0) (x := cell_) rfl) (ea_cons (ev_op (opx_I0 (g := fun i j => i + j)) mild_ok (ev_op (opx_I0 (g := fun i j => i + j)) mild_ok (ev_opI (C := CMul) (g := fun i j => i * j) (fun x y h _ => by cases h; exact .inl (by decide)) (ev_int (i := 5)) (ev_var (i := 1) (x := k_) rfl)) (ev_var (i := 7) (x := j_) rfl)) (ev_int (i := 1))) (ea_cons (ev_op (opx_I0 (g := fun i j => i - j)) mild_ok (ev_var (i := 2) (x := deep_) rfl) (ev_int (i := 1))) (ea_cons (ev_op (opx_I (C := CDivW) (g := fun i j => i / j)) mild_need (ev_var (i := 3) (x := most_) rfl) (ev_cb cx_max (fun _ _ h => nomatch h) (ea_cons (ev_int (i := 1)) (ea_cons (ev_var (i := 6) (x := count_) rfl) ea_nil)))) ea_nil))))) : EvX K (W0 E) [iM cell_, iM k_, iM deep_, iM most_, iM draw_, oW items_, iM count_, iM j_] _ _)
      refine blk_app (i := 5) (xs := items_) L2 trivial rfl (by exact hs_) fun y160 => ?_
      show Blk _ _ _ _ _ [iM cell_, iM k_, iM deep_, iM most_, iM draw_, oW ((items_ ++ [y160])), iM count_, iM j_] ((fun (items_ : (List D)) => _) (items_ ++ [y160]))
      generalize items_ ++ [y160] = items_
      show Blk _ _ _ _ _ [iM cell_, iM k_, iM deep_, iM most_, iM draw_, oW items_, iM count_, iM j_] _
      try refine Blk.nx ?_
      exact (hN2 items_).weak (.same (.same (.same (.same (.same (.same (.same (.drop .nil))))))))
    · intro items_
      show Blk _ _ _ _ _ [iM cell_, iM k_, iM deep_, iM most_, iM draw_, oW items_, iM count_, none] ((m_u_law_value_k3) items_)
      unfold m_u_law_value_k3
      try refine Blk.nx ?_
      refine blk_freeze 5 rfl ?_
      show Blk _ _ _ _ _ [iM cell_, iM k_, iM deep_, iM most_, iM draw_, iM items_, iM count_, none] _
      have hr_ := ((ev_as (ev_tupleL (ev_var (i := 5) (x := items_) rfl)) toD (fun _ => rfl) rfl) : EvX K (W0 E) [iM cell_, iM k_, iM deep_, iM most_, iM draw_, iM items_, iM count_, none] _ _)
      exact blk_ret L trivial (by exact hr_)
noncomputable def m_u_law_deep_b (rec_ : D → Res Int) (value_ : D) : Res Int :=
  ((Res.need ((toD value_).plain = true) (Res.ok (isI "tuple" (toD value_)))).bind fun (t162 : Bool) => Res.ok (!t162)).bind fun b => cond b   ((Res.ok (0 : Int)))   (((((((((Res.ok value_)).bind D.asTu).bind fun (t163 : (Tu D)) => Res.ok (t163).xs).bind fun (xs165 : List D) => Res.need (xs165.length ≤ 16777216) (compL (fun (x164 : D) => Res.ok true) (fun (x164 : D) => (rec_ x164).noexc) xs165)).bind fun (t166 : (List Int)) => Res.need (t166.length + ([(0 : Int)] : List Int).length ≤ 16777216) (Res.ok (t166 ++ ([(0 : Int)] : List Int)))).bind fun a167 => Res.ok (a167, ())).bind fun p169 => Res.need (0 < (p169.1).length) (Res.ok (lmax p169.1))).bind fun (t170 : Int) => Res.ok ((1 : Int) + t170))
noncomputable def m_u_law_deep : Nat → D → Res Int
  | 0, _ => Res.stuck
  | n_ + 1, value_ => m_u_law_deep_b (m_u_law_deep n_) value_
theorem ok_u_law_deep {P : Program} {w : World} {K : PySem.W.Frag} {mg : Str → Option Value} {base : Heap} (T : Facts P w K mg) {fd : FuncData} (F : FnP K "_law_deep" "_law_deep" s_u_law_deep (He.ga K "_law_deep") fd) : ∀ n_ : Nat,
    FnOk P w K mg base (L2.CX P w) (0 + n_) (He.ga K "_law_deep") fd ["value"] (spM K (fun (p : D × Unit) => m_u_law_deep n_ p.1)) := by
  have b_u_law_deep : Binds K fd ["value"] [] := F.bindsN fun _ _ _ _ _ _ us hl => match us, hl with | [_], _ => rfl
  have F_u_law_deep := F
  intro n_
  induction n_ with
  | zero => exact fnok_stuck _ (fun _ => rfl)
  | succ n_ G_u_law_deep =>
  refine fn_ok (k := 0 + n_) F sc_u_law_deep (fun y => rfl) (fun cdv A outer s H E hr => ?_)
  refine ⟨_, (pss_cons (ps_if (pt_not (pt_val (pe_callB call_isi (by rfl) T.n_isinstance (by decide +kernel) (pa_cons (pv 0) (pa_cons (pe_bltn (v := .ty "tuple") (by rfl) T.n_tuple (by decide +kernel) rfl) pa_nil))))) (pss_one (ps_ret pe_int)) pss_nil) (pss_one (ps_ret (pe_op op_add pe_int (pe_callB (cr_max rfl) (by rfl) T.n_max (by decide +kernel) (pa_cons (pe_op op_cat (pe_lc (own := [("item", 1)]) rfl sc_u_law_deep.nd (pi_tup (pv 0)) (blkOk_by (own := [("item", 1)]) (N := ["value", "item"]) (sc := defScope s_u_law_deep) (by decide +kernel)) (fun _ _ _ _ _ => (pg_name (i := 1) sc_u_law_deep.nd rfl (Or.inl rfl))) (fun _ _ _ _ _ => pts_nil) (fun _ _ _ _ _ => (pe_call G_u_law_deep (hr.mono (by omega)) rfl T.g_u_law_deep F_u_law_deep.kp b_u_law_deep .nil passL (pa_cons (pv 1) pa_nil)))) (pe_lst (pa_cons pe_int pa_nil))) pa_nil)))))), ?_⟩
  rintro ⟨value_, ⟨⟩⟩ F0 H0 Q KP L
  show Blk K F0 H0 KP _ [iM value_, none] (m_u_law_deep_b (m_u_law_deep n_) value_)
  unfold m_u_law_deep_b
  have ht_ := ((et_not (et_B (ev_isi isi_tuple (ev_var (i := 0) (x := value_) rfl)))) : EvT K (W0 E) [iM value_, none] _ _)
  refine blk_seq (blk_if2 L trivial (by exact ht_) ?_ ?_)
  · have hr_ := ((ev_int (i := 0)) : EvX K (W0 E) [iM value_, none] _ _)
    exact blk_ret L trivial (by exact hr_)
  · refine blk_nil ?_
    try refine Blk.nx ?_
    have hr_ := ((ev_op (opx_I0 (g := fun i j => i + j)) mild_ok (ev_int (i := 1)) (ev_cb cx_lmax (fun _ _ h => need_mild h) (ea_cons (ev_ofN (en_cat (ev_ofN (ev_comp (tst := fun (x164 : D) => Res.ok true) (el := fun (x164 : D) => ((m_u_law_deep n_) x164).noexc) (ws := [1]) (ei_tup (ev_cast (f := D.asTu) asTu_ok asTu_x (ev_var (i := 0) (x := value_) rfl))) (fun _ => gx_name) (fun x164 => et_yes) (fun x164 => ((ev_call0 (f := (fun (p : D × Unit) => (m_u_law_deep n_) p.1)) (ea_cons (ev_var (i := 1) (x := x164) rfl) ea_nil)) : EvX K WT [iM value_, iM x164] _ _)))) (ev_ofN (en_lst (f := (fun y => ([y.1] : List Int))) (ea_cons (ev_int (i := 0)) ea_nil) (fun _ => rfl) (fun _ => by show 1 ≤ 100000; decide))))) ea_nil))) : EvX K (W0 E) [iM value_, none] _ _)
    exact blk_ret L trivial (by exact hr_)
noncomputable def m_u_law_parts_b (rec_ : D → Res Int) (value_ : D) : Res Int :=
  ((Res.need ((toD value_).plain = true) (Res.ok (isI "tuple" (toD value_)))).bind fun (t171 : Bool) => Res.ok (!t171)).bind fun b => cond b   ((Res.ok (1 : Int)))   ((((((((Res.ok value_)).bind D.asTu).bind fun (t172 : (Tu D)) => Res.ok (t172).xs).bind fun (xs174 : List D) => Res.need (xs174.length ≤ 16777216) (compL (fun (x173 : D) => Res.ok true) (fun (x173 : D) => (rec_ x173).noexc) xs174)).bind fun a175 => Res.ok (a175, ())).bind fun p177 => Res.ok (p177.1).sum).bind fun (t178 : Int) => Res.ok ((1 : Int) + t178))
noncomputable def m_u_law_parts : Nat → D → Res Int
  | 0, _ => Res.stuck
  | n_ + 1, value_ => m_u_law_parts_b (m_u_law_parts n_) value_
theorem ok_u_law_parts {P : Program} {w : World} {K : PySem.W.Frag} {mg : Str → Option Value} {base : Heap} (T : Facts P w K mg) {fd : FuncData} (F : FnP K "_law_parts" "_law_parts" s_u_law_parts (He.ga K "_law_parts") fd) : ∀ n_ : Nat,
    FnOk P w K mg base (L2.CX P w) (0 + n_) (He.ga K "_law_parts") fd ["value"] (spM K (fun (p : D × Unit) => m_u_law_parts n_ p.1)) := by
  have b_u_law_parts : Binds K fd ["value"] [] := F.bindsN fun _ _ _ _ _ _ us hl => match us, hl with | [_], _ => rfl
  have F_u_law_parts := F
  intro n_
  induction n_ with
  | zero => exact fnok_stuck _ (fun _ => rfl)
  | succ n_ G_u_law_parts =>
  refine fn_ok (k := 0 + n_) F sc_u_law_parts (fun y => rfl) (fun cdv A outer s H E hr => ?_)
  refine ⟨_, (pss_cons (ps_if (pt_not (pt_val (pe_callB call_isi (by rfl) T.n_isinstance (by decide +kernel) (pa_cons (pv 0) (pa_cons (pe_bltn (v := .ty "tuple") (by rfl) T.n_tuple (by decide +kernel) rfl) pa_nil))))) (pss_one (ps_ret pe_int)) pss_nil) (pss_one (ps_ret (pe_op op_add pe_int (pe_callB (cr_sum rfl) (by rfl) T.n_sum (by decide +kernel) (pa_cons (pe_lc (own := [("item", 1)]) rfl sc_u_law_parts.nd (pi_tup (pv 0)) (blkOk_by (own := [("item", 1)]) (N := ["value", "item"]) (sc := defScope s_u_law_parts) (by decide +kernel)) (fun _ _ _ _ _ => (pg_name (i := 1) sc_u_law_parts.nd rfl (Or.inl rfl))) (fun _ _ _ _ _ => pts_nil) (fun _ _ _ _ _ => (pe_call G_u_law_parts (hr.mono (by omega)) rfl T.g_u_law_parts F_u_law_parts.kp b_u_law_parts .nil passL (pa_cons (pv 1) pa_nil)))) pa_nil)))))), ?_⟩
  rintro ⟨value_, ⟨⟩⟩ F0 H0 Q KP L
  show Blk K F0 H0 KP _ [iM value_, none] (m_u_law_parts_b (m_u_law_parts n_) value_)
  unfold m_u_law_parts_b
  have ht_ := ((et_not (et_B (ev_isi isi_tuple (ev_var (i := 0) (x := value_) rfl)))) : EvT K (W0 E) [iM value_, none] _ _)
  refine blk_seq (blk_if2 L trivial (by exact ht_) ?_ ?_)
  · have hr_ := ((ev_int (i := 1)) : EvX K (W0 E) [iM value_, none] _ _)
    exact blk_ret L trivial (by exact hr_)
  · refine blk_nil ?_
    try refine Blk.nx ?_
    have hr_ := ((ev_op (opx_I0 (g := fun i j => i + j)) mild_ok (ev_int (i := 1)) (ev_cb cx_sum (fun _ _ h => nomatch h) (ea_cons (ev_ofN (ev_comp (tst := fun (x173 : D) => Res.ok true) (el := fun (x173 : D) => ((m_u_law_parts n_) x173).noexc) (ws := [1]) (ei_tup (ev_cast (f := D.asTu) asTu_ok asTu_x (ev_var (i := 0) (x := value_) rfl))) (fun _ => gx_name) (fun x173 => et_yes) (fun x173 => ((ev_call0 (f := (fun (p : D × Unit) => (m_u_law_parts n_) p.1)) (ea_cons (ev_var (i := 1) (x := x173) rfl) ea_nil)) : EvX K WT [iM value_, iM x173] _ _)))) ea_nil))) : EvX K (W0 E) [iM value_, none] _ _)
    exact blk_ret L trivial (by exact hr_)
noncomputable def m_u_law_call (which_ : Int) (data_ : D) : Res (T2 Str D) :=
  ((Res.ok (decide (which_ = (0 : Int))))).bind fun b => cond b   (((((m_write_tree data_).bind fun (x : (List Int)) => Res.ok (toD x)).bind fun a179 => Res.ok (a179, ())).bind fun a182 => Res.ok (("told" : Str), a182)).bind fun p183 => Res.ok (T2.mk p183.1 p183.2.1))   (((Res.ok (decide (which_ = (1 : Int))))).bind fun b => cond b   ((((m_read_tree data_).bind fun a184 => Res.ok (a184, ())).bind fun a187 => Res.ok (("told" : Str), a187)).bind fun p188 => Res.ok (T2.mk p188.1 p188.2.1))   (((Res.ok (decide (which_ = (2 : Int))))).bind fun b => cond b   (((((((((((Res.ok data_)).bind D.asTu).bind fun (t189 : (Tu D)) => idx (t189).xs (0 : Int)).bind D.asInt).bind fun a193 => ((((((Res.ok data_)).bind D.asTu).bind fun (t190 : (Tu D)) => idx (t190).xs (1 : Int)).bind D.asInt).bind fun a191 => Res.ok (a191, ())).bind fun a194 => Res.ok (a193, a194)).bind fun p195 => m_write_pair p195.1 p195.2.1).bind fun (x : (List Int)) => Res.ok (toD x)).bind fun a196 => Res.ok (a196, ())).bind fun a199 => Res.ok (("told" : Str), a199)).bind fun p200 => Res.ok (T2.mk p200.1 p200.2.1))   (((((((((Res.ok data_)).bind D.asInts).bind fun a201 => Res.ok (a201, ())).bind fun p203 => m_read_pair p203.1).bind fun (x : (T2 Int Int)) => Res.ok (toD x)).bind fun a204 => Res.ok (a204, ())).bind fun a207 => Res.ok (("told" : Str), a207)).bind fun p208 => Res.ok (T2.mk p208.1 p208.2.1))))
theorem ok_u_law_call {P : Program} {w : World} {K : PySem.W.Frag} {mg : Str → Option Value} {base : Heap} (T : Facts P w K mg) {fd : FuncData} (F : FnP K "_law_call" "_law_call" s_u_law_call (He.ga K "_law_call") fd) :
    FnOk P w K mg base (L2.CX P w) 20 (He.ga K "_law_call") fd ["which", "data"] (spM K (fun (p : Int × D × Unit) => m_u_law_call p.1 p.2.1)) := by
  obtain ⟨fd_read_pair, F_read_pair⟩ := T.d_read_pair
  have G_read_pair := ok_read_pair (P := P) (w := w) (base := base) T F_read_pair
  have b_read_pair : Binds K fd_read_pair ["data"] [] := F_read_pair.bindsN fun _ _ _ _ _ _ us hl => match us, hl with | [_], _ => rfl
  obtain ⟨fd_read_tree, F_read_tree⟩ := T.d_read_tree
  have G_read_tree := ok_read_tree (P := P) (w := w) (base := base) T F_read_tree
  have b_read_tree : Binds K fd_read_tree ["data"] [] := F_read_tree.bindsN fun _ _ _ _ _ _ us hl => match us, hl with | [_], _ => rfl
  obtain ⟨fd_write_pair, F_write_pair⟩ := T.d_write_pair
  have G_write_pair := ok_write_pair (P := P) (w := w) (base := base) T F_write_pair
  have b_write_pair : Binds K fd_write_pair ["first", "second"] [] := F_write_pair.bindsN fun _ _ _ _ _ _ us hl => match us, hl with | [_, _], _ => rfl
  obtain ⟨fd_write_tree, F_write_tree⟩ := T.d_write_tree
  have G_write_tree := ok_write_tree (P := P) (w := w) (base := base) T F_write_tree
  have b_write_tree : Binds K fd_write_tree ["value"] [] := F_write_tree.bindsN fun _ _ _ _ _ _ us hl => match us, hl with | [_], _ => rfl
  refine fn_ok F sc_u_law_call (fun y => rfl) (fun cdv A outer s H E hr => ?_)
  refine ⟨_, (pss_cons (ps_if (pt_cmpR op_eq (pv 0) pe_int (nomark _)) (pss_one (ps_ret (pe_tup (pa_cons pe_str (pa_cons (pe_callS G_write_tree (hr.mono (by decide)) rfl T.g_write_tree F_write_tree.kp b_write_tree (fun σ => passAt (takes_of rfl rfl rfl rfl) σ) (pa_cons (pv 1) pa_nil)) pa_nil))))) pss_nil) (pss_cons (ps_if (pt_cmpR op_eq (pv 0) pe_int (nomark _)) (pss_one (ps_ret (pe_tup (pa_cons pe_str (pa_cons (pe_callS G_read_tree (hr.mono (by decide)) rfl T.g_read_tree F_read_tree.kp b_read_tree (fun σ => passAt (takes_of rfl rfl rfl rfl) σ) (pa_cons (pv 1) pa_nil)) pa_nil))))) pss_nil) (pss_cons (ps_if (pt_cmpR op_eq (pv 0) pe_int (nomark _)) (pss_one (ps_ret (pe_tup (pa_cons pe_str (pa_cons (pe_callS G_write_pair (hr.mono (by decide)) rfl T.g_write_pair F_write_pair.kp b_write_pair (fun σ => passAt (takes_of rfl rfl rfl rfl) σ) (pa_cons (pe_ix (cr_ixT rfl) (pv 1) pe_int (fun _ _ => rfl)) (pa_cons (pe_ix (cr_ixT rfl) (pv 1) pe_int (fun _ _ => rfl)) pa_nil))) pa_nil))))) pss_nil) (pss_one (ps_ret (pe_tup (pa_cons pe_str (pa_cons (pe_callS G_read_pair (hr.mono (by decide)) rfl T.g_read_pair F_read_pair.kp b_read_pair (fun σ => passAt (takes_of rfl rfl rfl rfl) σ) (pa_cons (pv 1) pa_nil)) pa_nil)))))))), ?_⟩
  rintro ⟨which_, data_, ⟨⟩⟩ F0 H0 Q KP L
  show Blk K F0 H0 KP _ [iM which_, iM data_] (m_u_law_call which_ data_)
  unfold m_u_law_call
  have ht_ := ((et_test (ev_op opx_eqI mild_ok (ev_var (i := 0) (x := which_) rfl) (ev_int (i := 0)))) : EvT K (W0 E) [iM which_, iM data_] _ _)
  refine blk_seq (blk_if2 L trivial (by exact ht_) ?_ ?_)
  · have hr_ := ((ev_tup (f := (fun (y : Str × D × Unit) => T2.mk y.1 y.2.1)) (ea_cons (ev_str (x := "told")) (ea_cons (ev_as (ev_call (f := (fun (p : D × Unit) => m_write_tree p.1)) (ea_cons (ev_var (i := 1) (x := data_) rfl) ea_nil)) toD (fun _ => rfl) rfl) ea_nil)) (fun _ => rfl) (fun _ => by show 2 ≤ 100000; decide)) : EvX K (W0 E) [iM which_, iM data_] _ _)
    exact blk_ret L trivial (by exact hr_)
  · refine blk_nil ?_
    try refine Blk.nx ?_
    have ht_ := ((et_test (ev_op opx_eqI mild_ok (ev_var (i := 0) (x := which_) rfl) (ev_int (i := 1)))) : EvT K (W0 E) [iM which_, iM data_] _ _)
    refine blk_seq (blk_if2 L trivial (by exact ht_) ?_ ?_)
    · have hr_ := ((ev_tup (f := (fun (y : Str × D × Unit) => T2.mk y.1 y.2.1)) (ea_cons (ev_str (x := "told")) (ea_cons (ev_call (f := (fun (p : D × Unit) => m_read_tree p.1)) (ea_cons (ev_var (i := 1) (x := data_) rfl) ea_nil)) ea_nil)) (fun _ => rfl) (fun _ => by show 2 ≤ 100000; decide)) : EvX K (W0 E) [iM which_, iM data_] _ _)
      exact blk_ret L trivial (by exact hr_)
    · refine blk_nil ?_
      try refine Blk.nx ?_
      have ht_ := ((et_test (ev_op opx_eqI mild_ok (ev_var (i := 0) (x := which_) rfl) (ev_int (i := 2)))) : EvT K (W0 E) [iM which_, iM data_] _ _)
      refine blk_seq (blk_if2 L trivial (by exact ht_) ?_ ?_)
      · have hr_ := ((ev_tup (f := (fun (y : Str × D × Unit) => T2.mk y.1 y.2.1)) (ea_cons (ev_str (x := "told")) (ea_cons (ev_as (ev_call (f := (fun (p : Int × Int × Unit) => m_write_pair p.1 p.2.1)) (ea_cons (ev_cast (f := D.asInt) asInt_ok asInt_x (ev_op opx_ixT (fun x y => idx_mild x.xs y) (ev_cast (f := D.asTu) asTu_ok asTu_x (ev_var (i := 1) (x := data_) rfl)) (ev_int (i := 0)))) (ea_cons (ev_cast (f := D.asInt) asInt_ok asInt_x (ev_op opx_ixT (fun x y => idx_mild x.xs y) (ev_cast (f := D.asTu) asTu_ok asTu_x (ev_var (i := 1) (x := data_) rfl)) (ev_int (i := 1)))) ea_nil))) toD (fun _ => rfl) rfl) ea_nil)) (fun _ => rfl) (fun _ => by show 2 ≤ 100000; decide)) : EvX K (W0 E) [iM which_, iM data_] _ _)
        exact blk_ret L trivial (by exact hr_)
      · refine blk_nil ?_
        try refine Blk.nx ?_
        have hr_ := ((ev_tup (f := (fun (y : Str × D × Unit) => T2.mk y.1 y.2.1)) (ea_cons (ev_str (x := "told")) (ea_cons (ev_as (ev_call (f := (fun (p : (List Int) × Unit) => m_read_pair p.1)) (ea_cons (ev_cast (f := D.asInts) asInts_ok asInts_x (ev_var (i := 1) (x := data_) rfl)) ea_nil)) toD (fun _ => rfl) rfl) ea_nil)) (fun _ => rfl) (fun _ => by show 2 ≤ 100000; decide)) : EvX K (W0 E) [iM which_, iM data_] _ _)
        exact blk_ret L trivial (by exact hr_)
noncomputable def m_u_law_told (which_ : Int) (data_ : D) : Res (T2 Str D) :=
  tryM (fun c => decide (c ∈ errs)) subE   ((m_u_law_call which_ data_).bind fun x => Res.ok (.back x))   (fun (_ : Unit) => Res.stuck) [("Malformed", (Res.ok (T2.mk ("refused" : Str) (toD ("form" : Str))))), ("OutOfRange", (Res.ok (T2.mk ("refused" : Str) (toD ("range" : Str))))), ("CurveError", (Res.ok (T2.mk ("refused" : Str) (toD ("" : Str)))))]
theorem ok_u_law_told {P : Program} {w : World} {K : PySem.W.Frag} {mg : Str → Option Value} {base : Heap} (T : Facts P w K mg) {fd : FuncData} (F : FnP K "_law_told" "_law_told" s_u_law_told (He.ga K "_law_told") fd) :
    FnOk P w K mg base (L2.CX P w) 21 (He.ga K "_law_told") fd ["which", "data"] (spM K (fun (p : Int × D × Unit) => m_u_law_told p.1 p.2.1)) := by
  obtain ⟨fd_u_law_call, F_u_law_call⟩ := T.d_u_law_call
  have G_u_law_call := ok_u_law_call (P := P) (w := w) (base := base) T F_u_law_call
  have b_u_law_call : Binds K fd_u_law_call ["which", "data"] [] := F_u_law_call.bindsN fun _ _ _ _ _ _ us hl => match us, hl with | [_, _], _ => rfl
  refine fn_ok F sc_u_law_told (fun y => rfl) (fun cdv A outer s H E hr => ?_)
  refine ⟨_, (pss_one (ps_tryM rfl rfl (takes_of rfl rfl rfl rfl) (fun qW_ qpn_ qxe_ qtk_ qpo_ => (pss_one (ps_ret (pe_callS G_u_law_call (hr.mono (by decide)) rfl T.g_u_law_call F_u_law_call.kp b_u_law_call (fun σ => passAt qtk_ σ) (pa_cons (pv 0) (pa_cons (pv 1) pa_nil)))))) (.cons ⟨rfl, by decide, .inl T.g_Malformed⟩ (fun qa_ qoe_ qcls_ qd_ qpn_ qhz_ qhf_ => (pss_one (ps_ret (pe_tup (pa_cons pe_str (pa_cons pe_str pa_nil)))))) (.cons ⟨rfl, by decide, .inl T.g_OutOfRange⟩ (fun qa_ qoe_ qcls_ qd_ qpn_ qhz_ qhf_ => (pss_one (ps_ret (pe_tup (pa_cons pe_str (pa_cons pe_str pa_nil)))))) (.cons ⟨rfl, by decide, .inl T.g_CurveError⟩ (fun qa_ qoe_ qcls_ qd_ qpn_ qhz_ qhf_ => (pss_one (ps_ret (pe_tup (pa_cons pe_str (pa_cons pe_str pa_nil)))))) .nil))))), ?_⟩
  rintro ⟨which_, data_, ⟨⟩⟩ F0 H0 Q KP L
  show Blk K F0 H0 KP _ [iM which_, iM data_] (m_u_law_told which_ data_)
  unfold m_u_law_told
  refine blk_tryM (S := Unit) (envS := fun _ => [iM which_, iM data_]) (rest := (fun (_ : Unit) => Res.stuck)) L trivial T.cls ?_ (.cons (by decide) (fun qa_ qcls_ => ?_) (.cons (by decide) (fun qa_ qcls_ => ?_) (.cons (by decide) (fun qa_ qcls_ => ?_) .nil))) ?_
  · intro qW_ qKP_ Lt qhg_
    have hr_ := ((ev_call (f := (fun (p : Int × D × Unit) => m_u_law_call p.1 p.2.1)) (ea_cons (ev_var (i := 0) (x := which_) rfl) (ea_cons (ev_var (i := 1) (x := data_) rfl) ea_nil))) : EvX K qW_ [iM which_, iM data_] _ _)
    exact blk_retAs Lt (.same (.same .nil)) (by exact hr_) (fun _ => rfl)
  · show Blk _ _ _ _ _ [iM which_, iM data_] _
    have hr_ := ((ev_tup (f := (fun (y : Str × D × Unit) => T2.mk y.1 y.2.1)) (ea_cons (ev_str (x := "refused")) (ea_cons (ev_as (ev_str (x := "form")) toD (fun _ => rfl) rfl) ea_nil)) (fun _ => rfl) (fun _ => by show 2 ≤ 100000; decide)) : EvX K (W0 E) [iM which_, iM data_] _ _)
    exact blk_ret L trivial (by exact hr_)
  · show Blk _ _ _ _ _ [iM which_, iM data_] _
    have hr_ := ((ev_tup (f := (fun (y : Str × D × Unit) => T2.mk y.1 y.2.1)) (ea_cons (ev_str (x := "refused")) (ea_cons (ev_as (ev_str (x := "range")) toD (fun _ => rfl) rfl) ea_nil)) (fun _ => rfl) (fun _ => by show 2 ≤ 100000; decide)) : EvX K (W0 E) [iM which_, iM data_] _ _)
    exact blk_ret L trivial (by exact hr_)
  · show Blk _ _ _ _ _ [iM which_, iM data_] _
    have hr_ := ((ev_tup (f := (fun (y : Str × D × Unit) => T2.mk y.1 y.2.1)) (ea_cons (ev_str (x := "refused")) (ea_cons (ev_as (ev_str (x := "")) toD (fun _ => rfl) rfl) ea_nil)) (fun _ => rfl) (fun _ => by show 2 ≤ 100000; decide)) : EvX K (W0 E) [iM which_, iM data_] _ _)
    exact blk_ret L trivial (by exact hr_)
  · intro _ _ _ _ _ h_
    exact (L.no h_).elim
noncomputable def m_u_law_wide_l1 (k1 : D → Res D) : List Int → D → Res D
  | [], s => k1 s
  | x210 :: r1, value_ =>   (fun (turn_ : Int) => ((Res.ok (toD (T1.mk value_)))).bind fun (value_ : D) =>   m_u_law_wide_l1 k1 r1 value_) x210
noncomputable def m_u_law_wide_k2 : D → Res D := fun value_ =>   (Res.ok value_)
noncomputable def m_u_law_wide (cell_ : Int) : Res D :=
  ((Res.need (((fun (x : (T1 Int)) => Tu.mk [x.a]) (T1.mk (cell_ % (300 : Int)))).xs ≠ [] ∧ 0 ≤ ((cell_ / (300 : Int)) % (70 : Int)) ∧ ((cell_ / (300 : Int)) % (70 : Int)) ≤ 1000 ∧ ((fun (x : (T1 Int)) => Tu.mk [x.a]) (T1.mk (cell_ % (300 : Int)))).xs.length ≤ 1000) (Res.ok (Tu.mk (List.replicate ((cell_ / (300 : Int)) % (70 : Int)).toNat ((fun (x : (T1 Int)) => Tu.mk [x.a]) (T1.mk (cell_ % (300 : Int)))).xs).flatten))).bind fun (x : (Tu Int)) => Res.ok (toD x)).bind fun (value_ : D) =>   (Res.need (okRange ((cell_ / (21000 : Int)) % (10 : Int))) (Res.ok (pyRange 0 ((cell_ / (21000 : Int)) % (10 : Int))))).bind fun (xs211 : List Int) => m_u_law_wide_l1 (m_u_law_wide_k2) xs211 value_
theorem ok_u_law_wide {P : Program} {w : World} {K : PySem.W.Frag} {mg : Str → Option Value} {base : Heap} (T : Facts P w K mg) {fd : FuncData} (F : FnP K "_law_wide" "_law_wide" s_u_law_wide (He.ga K "_law_wide") fd) :
    FnOk P w K mg base (L2.CX P w) 1 (He.ga K "_law_wide") fd ["cell"] (spM K (fun (p : Int × Unit) => m_u_law_wide p.1)) := by
  refine fn_ok F sc_u_law_wide (fun y => rfl) (fun cdv A outer s H E hr => ?_)
  refine ⟨_, (pss_cons (ps_set (i := 1) sc_u_law_wide.nd rfl (Or.inl rfl) (pe_op op_repTA (pe_tup (pa_cons (pe_op op_mod (pv 0) pe_int) pa_nil)) (pe_op op_mod (pe_op op_fdiv (pv 0) pe_int) pe_int))) (pss_cons (ps_for (passes_of rfl) rfl (pi_range1 rfl T.n_range (pa_cons (pe_op op_mod (pe_op op_fdiv (pv 0) pe_int) pe_int) pa_nil)) (pg_name (i := 2) sc_u_law_wide.nd rfl (Or.inl rfl)) (pss_one (ps_set (i := 1) sc_u_law_wide.nd rfl (Or.inl rfl) (pe_tup (pa_cons (pv 1) pa_nil))))) (pss_one (ps_ret (pv 1))))), ?_⟩
  rintro ⟨cell_, ⟨⟩⟩ F0 H0 Q KP L
  show Blk K F0 H0 KP _ [iM cell_, none, none] (m_u_law_wide cell_)
  unfold m_u_law_wide
  have hs_ := ((ev_as (ev_op opx_repTA mild_need (ev_as (ev_tup (f := (fun (y : Int × Unit) => T1.mk y.1)) (ea_cons (ev_opI (C := (fun _ j => 0 < j)) (g := fun i j => i % j) (fun x y _ h => by cases h; (show (0 : Int) < _; decide)) (ev_var (i := 0) (x := cell_) rfl) (ev_int (i := 300))) ea_nil) (fun _ => rfl) (fun _ => by show 1 ≤ 100000; decide)) (fun (x : (T1 Int)) => Tu.mk [x.a]) (fun _ => rfl) rfl) (ev_opI (C := (fun _ j => 0 < j)) (g := fun i j => i % j) (fun x y _ h => by cases h; (show (0 : Int) < _; decide)) (ev_opI (C := CDiv) (g := fun i j => i / j) (fun x y _ h => by cases h; exact ⟨by decide, by decide⟩) (ev_var (i := 0) (x := cell_) rfl) (ev_int (i := 300))) (ev_int (i := 70)))) toD (fun _ => rfl) rfl) : EvX K (W0 E) [iM cell_, none, none] _ _)
  refine blk_seq (blk_set (i := 1) L trivial (by exact hs_) fun value_ => ?_)
  show Blk _ _ _ _ _ [iM cell_, iM value_, none] _
  try refine Blk.nx ?_
  have hi_ := ((ei_range1 (ev_opI (C := (fun _ j => 0 < j)) (g := fun i j => i % j) (fun x y _ h => by cases h; (show (0 : Int) < _; decide)) (ev_opI (C := CDiv) (g := fun i j => i / j) (fun x y _ h => by cases h; exact ⟨by decide, by decide⟩) (ev_var (i := 0) (x := cell_) rfl) (ev_int (i := 21000))) (ev_int (i := 10)))) : EvI K (W0 E) [iM cell_, iM value_, none] _ _)
  refine blk_seq (blk_for (S := D) (m_u_law_wide_l1 (m_u_law_wide_k2)) (m_u_law_wide_k2) (fun value_ => [iM cell_, iM value_, none]) value_ L trivial (by exact hi_) (fun _ => gx_name) (.same (.same (.same .nil))) (fun _ => rfl) ?_ ?_)
  · intro F1 L1 hB1 x210 r1 s_ N_ hN1
    revert s_; intro value_
    show Blk _ _ _ _ _ [iM cell_, iM value_, iM x210] (m_u_law_wide_l1 (m_u_law_wide_k2) (x210 :: r1) value_)
    rw [m_u_law_wide_l1]
    show Blk _ _ _ _ _ _ ((fun (turn_ : Int) => _) x210)
    generalize x210 = turn_
    show Blk _ _ _ _ _ [iM cell_, iM value_, iM turn_] _
    have hs_ := ((ev_as (ev_tup (f := (fun (y : D × Unit) => T1.mk y.1)) (ea_cons (ev_var (i := 1) (x := value_) rfl) ea_nil) (fun _ => rfl) (fun _ => by show 1 ≤ 100000; decide)) toD (fun _ => rfl) rfl) : EvX K (W0 E) [iM cell_, iM value_, iM turn_] _ _)
    refine blk_set (i := 1) L1 trivial (by exact hs_) fun value_ => ?_
    show Blk _ _ _ _ _ [iM cell_, iM value_, iM turn_] _
    try refine Blk.nx ?_
    exact (hN1 value_).weak (.same (.same (.drop .nil)))
  · intro value_
    show Blk _ _ _ _ _ [iM cell_, iM value_, none] ((m_u_law_wide_k2) value_)
    unfold m_u_law_wide_k2
    try refine Blk.nx ?_
    have hr_ := ((ev_var (i := 1) (x := value_) rfl) : EvX K (W0 E) [iM cell_, iM value_, none] _ _)
    exact blk_ret L trivial (by exact hr_)
noncomputable def m_u_law_near_k4  : (List Int) → Res (List Int) := fun data_ =>   (Res.ok data_)
noncomputable def m_u_law_near_k3 (cell_ : Int) : (List Int) → Res (List Int) := fun data_ =>   ((Res.ok (decide ((cell_ % (5 : Int)) = (3 : Int))))).bind fun b => cond b   (((((idx ([(0 : Int), (2 : Int), (48 : Int)] : List Int) ((cell_ / (4000 : Int)) % (3 : Int))).bind fun a212 => Res.ok (a212, ())).bind fun p214 => Res.ok ([p214.1] : List Int)).bind fun (t215 : (List Int)) => Res.need (data_.length + t215.length ≤ 16777216) (Res.ok (data_ ++ t215))).bind fun (data_ : (List Int)) =>   m_u_law_near_k4 data_)   (m_u_law_near_k4 data_)
noncomputable def m_u_law_near_k2 (cell_ : Int) (at_ : Int) : (List Int) → Res (List Int) := fun data_ =>   ((Res.ok (decide ((cell_ % (5 : Int)) = (2 : Int))))).bind fun b => cond b   (((((Res.ok none).bind fun (lo216 : Option Int) => (Res.ok (some at_)).bind fun (hi217 : Option Int) => Res.ok (cutL data_ lo216 hi217)).bind fun (t218 : (List Int)) => Res.need (t218.length + ([((cell_ / (4000 : Int)) % (256 : Int))] : List Int).length ≤ 16777216) (Res.ok (t218 ++ ([((cell_ / (4000 : Int)) % (256 : Int))] : List Int)))).bind fun (t221 : (List Int)) => ((Res.ok (some at_)).bind fun (lo219 : Option Int) => (Res.ok none).bind fun (hi220 : Option Int) => Res.ok (cutL data_ lo219 hi220)).bind fun (t222 : (List Int)) => Res.need (t221.length + t222.length ≤ 16777216) (Res.ok (t221 ++ t222))).bind fun (data_ : (List Int)) =>   (m_u_law_near_k3 cell_) data_)   ((m_u_law_near_k3 cell_) data_)
noncomputable def m_u_law_near_k1 (cell_ : Int) (at_ : Int) : (List Int) → Res (List Int) := fun data_ =>   ((Res.ok (decide ((cell_ % (5 : Int)) = (1 : Int))))).bind fun b => cond b   ((((Res.ok none).bind fun (lo223 : Option Int) => (Res.ok (some at_)).bind fun (hi224 : Option Int) => Res.ok (cutL data_ lo223 hi224)).bind fun (t227 : (List Int)) => ((Res.ok (some (at_ + (1 : Int)))).bind fun (lo225 : Option Int) => (Res.ok none).bind fun (hi226 : Option Int) => Res.ok (cutL data_ lo225 hi226)).bind fun (t228 : (List Int)) => Res.need (t227.length + t228.length ≤ 16777216) (Res.ok (t227 ++ t228))).bind fun (data_ : (List Int)) =>   (m_u_law_near_k2 cell_ at_) data_)   ((m_u_law_near_k2 cell_ at_) data_)
noncomputable def m_u_law_near_k5 (cell_ : Int) (at_ : Int) : (List Int) → Res (List Int) := fun data_ =>   (m_u_law_near_k1 cell_ at_) data_
noncomputable def m_u_law_near (form_ : (List Int)) (cell_ : Int) : Res (List Int) :=
  ((Res.ok form_)).bind fun (data_ : (List Int)) =>   (Res.need (0 < (data_.length : Int)) (Res.ok ((cell_ / (5 : Int)) % (data_.length : Int)))).bind fun (at_ : Int) =>   ((Res.ok (decide ((cell_ % (5 : Int)) = (0 : Int))))).bind fun b => cond b   (((Res.ok ((cell_ / (4000 : Int)) % (256 : Int)))).bind fun (y229 : Int) => ((Res.ok at_)).bind fun (j230 : Int) => match ixN data_.length j230 with | some a231 => (m_u_law_near_k5 cell_ at_) (data_.set a231 y229) | none => Res.stuck)   ((m_u_law_near_k1 cell_ at_) data_)
theorem ok_u_law_near {P : Program} {w : World} {K : PySem.W.Frag} {mg : Str → Option Value} {base : Heap} (T : Facts P w K mg) {fd : FuncData} (F : FnP K "_law_near" "_law_near" s_u_law_near (He.ga K "_law_near") fd) :
    FnOk P w K mg base (L2.CX P w) 1 (He.ga K "_law_near") fd ["form", "cell"] (spM K (fun (p : (List Int) × Int × Unit) => m_u_law_near p.1 p.2.1)) := by
  refine fn_ok F sc_u_law_near (fun y => rfl) (fun cdv A outer s H E hr => ?_)
  refine ⟨_, (pss_cons (ps_set (i := 2) sc_u_law_near.nd rfl (Or.inl rfl) (pe_callTy (T := "list") (cr_listof rfl) (by rfl) T.n_list (by decide +kernel) (pa_cons (pv 0) pa_nil))) (pss_cons (ps_set (i := 3) sc_u_law_near.nd rfl (Or.inl rfl) (pe_op op_mod (pe_op op_fdiv (pv 1) pe_int) (pe_callB (cr_len rfl) (by rfl) T.n_len (by decide +kernel) (pa_cons (pv 2) pa_nil)))) (pss_cons (ps_if (pt_cmpR op_eq (pe_op op_mod (pv 1) pe_int) pe_int (nomark _)) (pss_one (ps_asg (pe_op op_mod (pe_op op_fdiv (pv 1) pe_int) pe_int) (pg_sub (pv 2) (pv 3) set_list))) pss_nil) (pss_cons (ps_if (pt_cmpR op_eq (pe_op op_mod (pv 1) pe_int) pe_int (nomark _)) (pss_one (ps_set (i := 2) sc_u_law_near.nd rfl (Or.inl rfl) (pe_op op_cat (pe_slice (cr_slL rfl) (pv 2) po_none (po_some (pv 3))) (pe_slice (cr_slL rfl) (pv 2) (po_some (pe_op op_add (pv 3) pe_int)) po_none)))) pss_nil) (pss_cons (ps_if (pt_cmpR op_eq (pe_op op_mod (pv 1) pe_int) pe_int (nomark _)) (pss_one (ps_set (i := 2) sc_u_law_near.nd rfl (Or.inl rfl) (pe_op op_cat (pe_op op_cat (pe_slice (cr_slL rfl) (pv 2) po_none (po_some (pv 3))) (pe_lst (pa_cons (pe_op op_mod (pe_op op_fdiv (pv 1) pe_int) pe_int) pa_nil))) (pe_slice (cr_slL rfl) (pv 2) (po_some (pv 3)) po_none)))) pss_nil) (pss_cons (ps_if (pt_cmpR op_eq (pe_op op_mod (pv 1) pe_int) pe_int (nomark _)) (pss_one (ps_set (i := 2) sc_u_law_near.nd rfl (Or.inl rfl) (pe_op op_cat (pv 2) (pe_lst (pa_cons (pe_ix (cr_ixL rfl) (pe_lst (pa_cons pe_int (pa_cons pe_int (pa_cons pe_int pa_nil)))) (pe_op op_mod (pe_op op_fdiv (pv 1) pe_int) pe_int) (fun _ _ => rfl)) pa_nil))))) pss_nil) (pss_one (ps_ret (pv 2))))))))), ?_⟩
  rintro ⟨form_, cell_, ⟨⟩⟩ F0 H0 Q KP L
  show Blk K F0 H0 KP _ [iM form_, iM cell_, none, none] (m_u_law_near form_ cell_)
  unfold m_u_law_near
  have hs_ := ((en_list (ev_var (i := 0) (x := form_) rfl)) : EvN K (W0 E) [iM form_, iM cell_, none, none] _ _)
  refine blk_seq (blk_own (i := 2) L trivial (by exact hs_) fun data_ => ?_)
  show Blk _ _ _ _ _ [iM form_, iM cell_, oW data_, none] _
  try refine Blk.nx ?_
  have hs_ := ((ev_op (opx_I (C := (fun _ j => 0 < j)) (g := fun i j => i % j)) mild_need (ev_opI (C := CDiv) (g := fun i j => i / j) (fun x y _ h => by cases h; exact ⟨by decide, by decide⟩) (ev_var (i := 1) (x := cell_) rfl) (ev_int (i := 5))) (ev_lenO (j := 2) (xs := data_) rfl)) : EvX K (W0 E) [iM form_, iM cell_, oW data_, none] _ _)
  refine blk_seq (blk_set (i := 3) L trivial (by exact hs_) fun at_ => ?_)
  show Blk _ _ _ _ _ [iM form_, iM cell_, oW data_, iM at_] _
  try refine Blk.nx ?_
  have ht_ := ((et_test (ev_op opx_eqI mild_ok (ev_opI (C := (fun _ j => 0 < j)) (g := fun i j => i % j) (fun x y _ h => by cases h; (show (0 : Int) < _; decide)) (ev_var (i := 1) (x := cell_) rfl) (ev_int (i := 5))) (ev_int (i := 0)))) : EvT K (W0 E) [iM form_, iM cell_, oW data_, iM at_] _ _)
  refine blk_seq (blk_ifj (S := (List Int)) (fun data_ => [iM form_, iM cell_, iM data_, iM at_]) (m_u_law_near_k1 cell_ at_) L trivial (by exact ht_) ?_ ?_ ?_)
  · intro data_
    show Blk _ _ _ _ _ [iM form_, iM cell_, iM data_, iM at_] ((m_u_law_near_k1 cell_ at_) data_)
    unfold m_u_law_near_k1
    try refine Blk.nx ?_
    have ht_ := ((et_test (ev_op opx_eqI mild_ok (ev_opI (C := (fun _ j => 0 < j)) (g := fun i j => i % j) (fun x y _ h => by cases h; (show (0 : Int) < _; decide)) (ev_var (i := 1) (x := cell_) rfl) (ev_int (i := 5))) (ev_int (i := 1)))) : EvT K (W0 E) [iM form_, iM cell_, iM data_, iM at_] _ _)
    refine blk_seq (blk_ifj (S := (List Int)) (fun data_ => [iM form_, iM cell_, iM data_, iM at_]) (m_u_law_near_k2 cell_ at_) L trivial (by exact ht_) ?_ ?_ ?_)
    · intro data_
      show Blk _ _ _ _ _ [iM form_, iM cell_, iM data_, iM at_] ((m_u_law_near_k2 cell_ at_) data_)
      unfold m_u_law_near_k2
      try refine Blk.nx ?_
      have ht_ := ((et_test (ev_op opx_eqI mild_ok (ev_opI (C := (fun _ j => 0 < j)) (g := fun i j => i % j) (fun x y _ h => by cases h; (show (0 : Int) < _; decide)) (ev_var (i := 1) (x := cell_) rfl) (ev_int (i := 5))) (ev_int (i := 2)))) : EvT K (W0 E) [iM form_, iM cell_, iM data_, iM at_] _ _)
      refine blk_seq (blk_ifj (S := (List Int)) (fun data_ => [iM form_, iM cell_, iM data_, iM at_]) (m_u_law_near_k3 cell_) L trivial (by exact ht_) ?_ ?_ ?_)
      · intro data_
        show Blk _ _ _ _ _ [iM form_, iM cell_, iM data_, iM at_] ((m_u_law_near_k3 cell_) data_)
        unfold m_u_law_near_k3
        try refine Blk.nx ?_
        have ht_ := ((et_test (ev_op opx_eqI mild_ok (ev_opI (C := (fun _ j => 0 < j)) (g := fun i j => i % j) (fun x y _ h => by cases h; (show (0 : Int) < _; decide)) (ev_var (i := 1) (x := cell_) rfl) (ev_int (i := 5))) (ev_int (i := 3)))) : EvT K (W0 E) [iM form_, iM cell_, iM data_, iM at_] _ _)
        refine blk_seq (blk_ifj (S := (List Int)) (fun data_ => [iM form_, iM cell_, iM data_, iM at_]) m_u_law_near_k4 L trivial (by exact ht_) ?_ ?_ ?_)
        · intro data_
          show Blk _ _ _ _ _ [iM form_, iM cell_, iM data_, iM at_] (m_u_law_near_k4 data_)
          unfold m_u_law_near_k4
          try refine Blk.nx ?_
          have hr_ := ((ev_var (i := 2) (x := data_) rfl) : EvX K (W0 E) [iM form_, iM cell_, iM data_, iM at_] _ _)
          exact blk_ret L trivial (by exact hr_)
        · intro hk4
          have hs_ := ((ev_ofN (en_cat (ev_var (i := 2) (x := data_) rfl) (ev_ofN (en_lst (f := (fun y => ([y.1] : List Int))) (ea_cons (ev_op opx_ixL (fun x y => idx_mild x y) (ev_ofN (en_lst (f := (fun y => ([y.1, y.2.1, y.2.2.1] : List Int))) (ea_cons (ev_int (i := 0)) (ea_cons (ev_int (i := 2)) (ea_cons (ev_int (i := 48)) ea_nil))) (fun _ => rfl) (fun _ => by show 3 ≤ 100000; decide))) (ev_opI (C := (fun _ j => 0 < j)) (g := fun i j => i % j) (fun x y _ h => by cases h; (show (0 : Int) < _; decide)) (ev_opI (C := CDiv) (g := fun i j => i / j) (fun x y _ h => by cases h; exact ⟨by decide, by decide⟩) (ev_var (i := 1) (x := cell_) rfl) (ev_int (i := 4000))) (ev_int (i := 3)))) ea_nil) (fun _ => rfl) (fun _ => by show 1 ≤ 100000; decide))))) : EvX K (W0 E) [iM form_, iM cell_, iM data_, iM at_] _ _)
          refine blk_set (i := 2) L trivial (by exact hs_) fun data_ => ?_
          show Blk _ _ _ _ _ [iM form_, iM cell_, iM data_, iM at_] _
          try refine Blk.nx ?_
          exact (hk4 data_).weak (.same (.same (.same (.same .nil))))
        · intro hk4
          refine blk_nil ?_
          try refine Blk.nx ?_
          exact (hk4 data_).weak (.same (.same (.same (.same .nil))))
      · intro hk3
        have hs_ := ((ev_ofN (en_cat (ev_ofN (en_cat (ev_ofN (en_sliceV (ev_var (i := 2) (x := data_) rfl) ept_none (ept_some (ev_var (i := 3) (x := at_) rfl)))) (ev_ofN (en_lst (f := (fun y => ([y.1] : List Int))) (ea_cons (ev_opI (C := (fun _ j => 0 < j)) (g := fun i j => i % j) (fun x y _ h => by cases h; (show (0 : Int) < _; decide)) (ev_opI (C := CDiv) (g := fun i j => i / j) (fun x y _ h => by cases h; exact ⟨by decide, by decide⟩) (ev_var (i := 1) (x := cell_) rfl) (ev_int (i := 4000))) (ev_int (i := 256))) ea_nil) (fun _ => rfl) (fun _ => by show 1 ≤ 100000; decide))))) (ev_ofN (en_sliceV (ev_var (i := 2) (x := data_) rfl) (ept_some (ev_var (i := 3) (x := at_) rfl)) ept_none)))) : EvX K (W0 E) [iM form_, iM cell_, iM data_, iM at_] _ _)
        refine blk_set (i := 2) L trivial (by exact hs_) fun data_ => ?_
        show Blk _ _ _ _ _ [iM form_, iM cell_, iM data_, iM at_] _
        try refine Blk.nx ?_
        exact (hk3 data_).weak (.same (.same (.same (.same .nil))))
      · intro hk3
        refine blk_nil ?_
        try refine Blk.nx ?_
        exact (hk3 data_).weak (.same (.same (.same (.same .nil))))
    · intro hk2
      have hs_ := ((ev_ofN (en_cat (ev_ofN (en_sliceV (ev_var (i := 2) (x := data_) rfl) ept_none (ept_some (ev_var (i := 3) (x := at_) rfl)))) (ev_ofN (en_sliceV (ev_var (i := 2) (x := data_) rfl) (ept_some (ev_op (opx_I0 (g := fun i j => i + j)) mild_ok (ev_var (i := 3) (x := at_) rfl) (ev_int (i := 1)))) ept_none)))) : EvX K (W0 E) [iM form_, iM cell_, iM data_, iM at_] _ _)
      refine blk_set (i := 2) L trivial (by exact hs_) fun data_ => ?_
      show Blk _ _ _ _ _ [iM form_, iM cell_, iM data_, iM at_] _
      try refine Blk.nx ?_
      exact (hk2 data_).weak (.same (.same (.same (.same .nil))))
    · intro hk2
      refine blk_nil ?_
      try refine Blk.nx ?_
      exact (hk2 data_).weak (.same (.same (.same (.same .nil))))
  · intro hk1
    have he_ := ((ev_opI (C := (fun _ j => 0 < j)) (g := fun i j => i % j) (fun x y _ h => by cases h; (show (0 : Int) < _; decide)) (ev_opI (C := CDiv) (g := fun i j => i / j) (fun x y _ h => by cases h; exact ⟨by decide, by decide⟩) (ev_var (i := 1) (x := cell_) rfl) (ev_int (i := 4000))) (ev_int (i := 256))) : EvX K (W0 E) [iM form_, iM cell_, oW data_, iM at_] _ _)
    have hi_ := ((ev_var (i := 3) (x := at_) rfl) : EvX K (W0 E) [iM form_, iM cell_, oW data_, iM at_] _ _)
    refine blk_setI (i := 2) (xs := data_) (f := (m_u_law_near_k5 cell_ at_)) L trivial rfl (by exact he_) (by exact hi_) fun data_ => ?_
    show Blk _ _ _ _ _ [iM form_, iM cell_, oW data_, iM at_] ((m_u_law_near_k5 cell_ at_) data_)
    unfold m_u_law_near_k5
    show Blk _ _ _ _ _ [iM form_, iM cell_, oW data_, iM at_] _
    try refine Blk.nx ?_
    refine blk_freeze 2 rfl ?_
    show Blk _ _ _ _ _ [iM form_, iM cell_, iM data_, iM at_] _
    exact (hk1 data_).weak (.same (.same (.same (.same .nil))))
  · intro hk1
    refine blk_nil ?_
    try refine Blk.nx ?_
    refine blk_freeze 2 rfl ?_
    show Blk _ _ _ _ _ [iM form_, iM cell_, iM data_, iM at_] _
    exact (hk1 data_).weak (.same (.same (.same (.same .nil))))
noncomputable def m_u_law_is_number (value_ : D) : Res Bool :=
  (m_u_law_integer value_).bind fun b234 => cond b234 ((((Res.ok value_)).bind D.asInt).bind fun (t232 : Int) => cond (decide ((0 : Int) ≤ t232)) ((Res.need (CShl (1 : Int) (520 : Int)) (Res.ok ((1 : Int) * 2 ^ (520 : Int).toNat))).bind fun (t233 : Int) => Res.ok (decide (t232 < t233))) (Res.ok false)) (Res.ok false)
theorem ok_u_law_is_number {P : Program} {w : World} {K : PySem.W.Frag} {mg : Str → Option Value} {base : Heap} (T : Facts P w K mg) {fd : FuncData} (F : FnP K "_law_is_number" "_law_is_number" s_u_law_is_number (He.ga K "_law_is_number") fd) :
    FnOk P w K mg base (L2.CX P w) 2 (He.ga K "_law_is_number") fd ["value"] (spM K (fun (p : D × Unit) => m_u_law_is_number p.1)) := by
  obtain ⟨fd_u_law_integer, F_u_law_integer⟩ := T.d_u_law_integer
  have G_u_law_integer := ok_u_law_integer (P := P) (w := w) (base := base) T F_u_law_integer
  have b_u_law_integer : Binds K fd_u_law_integer ["x"] [] := F_u_law_integer.bindsN fun _ _ _ _ _ _ us hl => match us, hl with | [_], _ => rfl
  refine fn_ok F sc_u_law_is_number (fun y => rfl) (fun cdv A outer s H E hr => ?_)
  refine ⟨_, (pss_one (ps_ret (pe_and (pe_callS G_u_law_integer (hr.mono (by decide)) rfl T.g_u_law_integer F_u_law_integer.kp b_u_law_integer (fun σ => passAt (takes_of rfl rfl rfl rfl) σ) (pa_cons (pv 0) pa_nil)) (pe_one (pe_chain op_le op_lt pe_int (pv 0) (pe_op op_shlW pe_int pe_int)))))), ?_⟩
  rintro ⟨value_, ⟨⟩⟩ F0 H0 Q KP L
  show Blk K F0 H0 KP _ [iM value_] (m_u_law_is_number value_)
  unfold m_u_law_is_number
  have hr_ := ((ev_andV (ev_call (f := (fun (p : D × Unit) => m_u_law_integer p.1)) (ea_cons (ev_var (i := 0) (x := value_) rfl) ea_nil)) (ev_chain (opx_B0 (g := fun i j => decide (i ≤ j))) mild_ok (opx_B0 (g := fun i j => decide (i < j))) mild_ok (ev_int (i := 0)) (ev_cast (f := D.asInt) asInt_ok asInt_x (ev_var (i := 0) (x := value_) rfl)) (ev_op (opx_I (C := CShl) (g := fun i j => i * 2 ^ j.toNat)) mild_need (ev_int (i := 1)) (ev_int (i := 520))))) : EvX K (W0 E) [iM value_] _ _)
  exact blk_ret L trivial (by exact hr_)
noncomputable def m_u_law_fits_b (rec_ : D → Res Bool) (value_ : D) : Res Bool :=
  (Res.need ((toD value_).plain = true) (Res.ok (isI "tuple" (toD value_)))).bind fun b => cond b   ((((((((Res.ok value_)).bind D.asTu).bind fun (t235 : (Tu D)) => Res.ok (t235).xs).bind fun (xs238 : List D) => Res.need (xs238.length ≤ 16777216) (compL (fun (x236 : D) => ((rec_ x236).noexc).bind fun (t237 : Bool) => Res.ok (!t237)) (fun (x236 : D) => (Res.ok x236)) xs238)).bind fun a239 => Res.ok (a239, ())).bind fun p241 => Res.ok ((p241.1).length : Int)).bind fun (t242 : Int) => Res.ok (decide (t242 = (0 : Int))))   (m_u_law_is_number value_)
noncomputable def m_u_law_fits : Nat → D → Res Bool
  | 0, _ => Res.stuck
  | n_ + 1, value_ => m_u_law_fits_b (m_u_law_fits n_) value_
theorem ok_u_law_fits {P : Program} {w : World} {K : PySem.W.Frag} {mg : Str → Option Value} {base : Heap} (T : Facts P w K mg) {fd : FuncData} (F : FnP K "_law_fits" "_law_fits" s_u_law_fits (He.ga K "_law_fits") fd) : ∀ n_ : Nat,
    FnOk P w K mg base (L2.CX P w) (2 + n_) (He.ga K "_law_fits") fd ["value"] (spM K (fun (p : D × Unit) => m_u_law_fits n_ p.1)) := by
  obtain ⟨fd_u_law_is_number, F_u_law_is_number⟩ := T.d_u_law_is_number
  have G_u_law_is_number := ok_u_law_is_number (P := P) (w := w) (base := base) T F_u_law_is_number
  have b_u_law_is_number : Binds K fd_u_law_is_number ["value"] [] := F_u_law_is_number.bindsN fun _ _ _ _ _ _ us hl => match us, hl with | [_], _ => rfl
  have b_u_law_fits : Binds K fd ["value"] [] := F.bindsN fun _ _ _ _ _ _ us hl => match us, hl with | [_], _ => rfl
  have F_u_law_fits := F
  intro n_
  induction n_ with
  | zero => exact fnok_stuck _ (fun _ => rfl)
  | succ n_ G_u_law_fits =>
  refine fn_ok (k := 2 + n_) F sc_u_law_fits (fun y => rfl) (fun cdv A outer s H E hr => ?_)
  refine ⟨_, (pss_cons (ps_if (pt_val (pe_callB call_isi (by rfl) T.n_isinstance (by decide +kernel) (pa_cons (pv 0) (pa_cons (pe_bltn (v := .ty "tuple") (by rfl) T.n_tuple (by decide +kernel) rfl) pa_nil)))) (pss_one (ps_ret (pe_cmpR op_eq (pe_callB (cr_len rfl) (by rfl) T.n_len (by decide +kernel) (pa_cons (pe_lc (own := [("item", 1)]) rfl sc_u_law_fits.nd (pi_tup (pv 0)) (blkOk_by (own := [("item", 1)]) (N := ["value", "item"]) (sc := defScope s_u_law_fits) (by decide +kernel)) (fun _ _ _ _ _ => (pg_name (i := 1) sc_u_law_fits.nd rfl (Or.inl rfl))) (fun _ _ _ _ _ => (pts_one (pt_not (pt_val (pe_call G_u_law_fits (hr.mono (by omega)) rfl T.g_u_law_fits F_u_law_fits.kp b_u_law_fits .nil passL (pa_cons (pv 1) pa_nil)))))) (fun _ _ _ _ _ => (pv 1))) pa_nil)) pe_int (nomark _)))) pss_nil) (pss_one (ps_ret (pe_callS G_u_law_is_number (hr.mono (by omega)) rfl T.g_u_law_is_number F_u_law_is_number.kp b_u_law_is_number (fun σ => passAt (takes_of rfl rfl rfl rfl) σ) (pa_cons (pv 0) pa_nil))))), ?_⟩
  rintro ⟨value_, ⟨⟩⟩ F0 H0 Q KP L
  show Blk K F0 H0 KP _ [iM value_, none] (m_u_law_fits_b (m_u_law_fits n_) value_)
  unfold m_u_law_fits_b
  have ht_ := ((et_B (ev_isi isi_tuple (ev_var (i := 0) (x := value_) rfl))) : EvT K (W0 E) [iM value_, none] _ _)
  refine blk_seq (blk_if2 L trivial (by exact ht_) ?_ ?_)
  · have hr_ := ((ev_op opx_eqI mild_ok (ev_cb cx_len (fun _ _ h => nomatch h) (ea_cons (ev_ofN (ev_comp (tst := fun (x236 : D) => (((m_u_law_fits n_) x236).noexc).bind fun (t237 : Bool) => Res.ok (!t237)) (el := fun (x236 : D) => (Res.ok x236)) (ws := [1]) (ei_tup (ev_cast (f := D.asTu) asTu_ok asTu_x (ev_var (i := 0) (x := value_) rfl))) (fun _ => gx_name) (fun x236 => ((et_not (et_B (ev_call0 (f := (fun (p : D × Unit) => (m_u_law_fits n_) p.1)) (ea_cons (ev_var (i := 1) (x := x236) rfl) ea_nil)))) : EvT K WT [iM value_, iM x236] _ _)) (fun x236 => ((ev_var (i := 1) (x := x236) rfl) : EvX K WT [iM value_, iM x236] _ _)))) ea_nil)) (ev_int (i := 0))) : EvX K (W0 E) [iM value_, none] _ _)
    exact blk_ret L trivial (by exact hr_)
  · refine blk_nil ?_
    try refine Blk.nx ?_
    have hr_ := ((ev_call (f := (fun (p : D × Unit) => m_u_law_is_number p.1)) (ea_cons (ev_var (i := 0) (x := value_) rfl) ea_nil)) : EvX K (W0 E) [iM value_, none] _ _)
    exact blk_ret L trivial (by exact hr_)
noncomputable def m_u_law_right (which_ : Int) (found_ : (T2 Str D)) (data_ : (List Int)) : Res Bool :=
  ((Res.ok (found_.a == ("refused" : Str)))).bind fun b => cond b   (Res.need ((toD found_.b).okq = true ∧ (toD ("form" : Str)).okq = true) (Res.ok (pyEq (toD found_.b) (toD ("form" : Str)))))   (((Res.ok found_.b)).bind fun (value_ : D) =>   (((m_u_law_fits 12 value_).bind fun (t243 : Bool) => Res.ok (!t243)).bind fun b249 => cond b249 (Res.ok true) (((m_u_law_deep 12 value_).bind fun (t244 : Int) => Res.ok (decide ((8 : Int) < t244))).bind fun b248 => cond b248 (Res.ok true) (((m_u_law_parts 12 value_).bind fun (t245 : Int) => Res.ok (decide ((64 : Int) < t245))).bind fun b247 => cond b247 (Res.ok true) ((m_u_law_tree 12 value_).bind fun (t246 : (List Int)) => Res.need ((toD t246).okq = true ∧ (toD data_).okq = true) (Res.ok (!pyEq (toD t246) (toD data_))))))).bind fun b => cond b   ((Res.ok false))   (cond (decide (which_ = (1 : Int))) (Res.ok true) ((Res.need ((toD value_).plain = true) (Res.ok (isI "tuple" (toD value_)))).bind fun b254 => cond b254 (((((Res.ok value_)).bind fun (t250 : D) => D.lenR t250).bind fun (t251 : Int) => Res.ok (decide (t251 = (2 : Int)))).bind fun b253 => cond b253 ((m_u_law_deep 12 value_).bind fun (t252 : Int) => Res.ok (decide (t252 = (1 : Int)))) (Res.ok false)) (Res.ok false))))
theorem ok_u_law_right {P : Program} {w : World} {K : PySem.W.Frag} {mg : Str → Option Value} {base : Heap} (T : Facts P w K mg) {fd : FuncData} (F : FnP K "_law_right" "_law_right" s_u_law_right (He.ga K "_law_right") fd) :
    FnOk P w K mg base (L2.CX P w) 15 (He.ga K "_law_right") fd ["which", "found", "data"] (spM K (fun (p : Int × (T2 Str D) × (List Int) × Unit) => m_u_law_right p.1 p.2.1 p.2.2.1)) := by
  obtain ⟨fd_u_law_deep, F_u_law_deep⟩ := T.d_u_law_deep
  have G_u_law_deep := ok_u_law_deep (P := P) (w := w) (base := base) T F_u_law_deep 12
  have b_u_law_deep : Binds K fd_u_law_deep ["value"] [] := F_u_law_deep.bindsN fun _ _ _ _ _ _ us hl => match us, hl with | [_], _ => rfl
  obtain ⟨fd_u_law_fits, F_u_law_fits⟩ := T.d_u_law_fits
  have G_u_law_fits := ok_u_law_fits (P := P) (w := w) (base := base) T F_u_law_fits 12
  have b_u_law_fits : Binds K fd_u_law_fits ["value"] [] := F_u_law_fits.bindsN fun _ _ _ _ _ _ us hl => match us, hl with | [_], _ => rfl
  obtain ⟨fd_u_law_parts, F_u_law_parts⟩ := T.d_u_law_parts
  have G_u_law_parts := ok_u_law_parts (P := P) (w := w) (base := base) T F_u_law_parts 12
  have b_u_law_parts : Binds K fd_u_law_parts ["value"] [] := F_u_law_parts.bindsN fun _ _ _ _ _ _ us hl => match us, hl with | [_], _ => rfl
  obtain ⟨fd_u_law_tree, F_u_law_tree⟩ := T.d_u_law_tree
  have G_u_law_tree := ok_u_law_tree (P := P) (w := w) (base := base) T F_u_law_tree 12
  have b_u_law_tree : Binds K fd_u_law_tree ["value"] [] := F_u_law_tree.bindsN fun _ _ _ _ _ _ us hl => match us, hl with | [_], _ => rfl
  refine fn_ok F sc_u_law_right (fun y => rfl) (fun cdv A outer s H E hr => ?_)
  refine ⟨_, (pss_cons (ps_if (pt_cmpR op_eq (pe_ix (cr_ixT rfl) (pv 1) pe_int (fun _ _ => rfl)) pe_str (nomark _)) (pss_one (ps_ret (pe_cmpR (op_eqD (Room.units hr)) (pe_ix (cr_ixT rfl) (pv 1) pe_int (fun _ _ => rfl)) pe_str (nomark _)))) pss_nil) (pss_cons (ps_set (i := 3) sc_u_law_right.nd rfl (Or.inl rfl) (pe_ix (cr_ixT rfl) (pv 1) pe_int (fun _ _ => rfl))) (pss_cons (ps_if (PW.pt (pw_or (pt_not (pt_val (pe_callS G_u_law_fits (hr.mono (by decide)) rfl T.g_u_law_fits F_u_law_fits.kp b_u_law_fits (fun σ => passAt (takes_of rfl rfl rfl rfl) σ) (pa_cons (pv 3) pa_nil)))) (pw_or (pt_cmpR op_gt (pe_callS G_u_law_deep (hr.mono (by decide)) rfl T.g_u_law_deep F_u_law_deep.kp b_u_law_deep (fun σ => passAt (takes_of rfl rfl rfl rfl) σ) (pa_cons (pv 3) pa_nil)) pe_int (nomark _)) (pw_or (pt_cmpR op_gt (pe_callS G_u_law_parts (hr.mono (by decide)) rfl T.g_u_law_parts F_u_law_parts.kp b_u_law_parts (fun σ => passAt (takes_of rfl rfl rfl rfl) σ) (pa_cons (pv 3) pa_nil)) pe_int (nomark _)) (pw_or1 (pt_cmpR (op_neD (Room.units hr)) (pe_callS G_u_law_tree (hr.mono (by decide)) rfl T.g_u_law_tree F_u_law_tree.kp b_u_law_tree (fun σ => passAt (takes_of rfl rfl rfl rfl) σ) (pa_cons (pv 3) pa_nil)) (pv 2) (nomark _))))))) (pss_one (ps_ret pe_bl)) pss_nil) (pss_one (ps_ret (pe_or (pe_cmpR op_eq (pv 0) pe_int (nomark _)) (pe_one (pe_and (pe_callB call_isi (by rfl) T.n_isinstance (by decide +kernel) (pa_cons (pv 3) (pa_cons (pe_bltn (v := .ty "tuple") (by rfl) T.n_tuple (by decide +kernel) rfl) pa_nil))) (pe_and (pe_cmpR op_eq (pe_callB (cr_len rfl) (by rfl) T.n_len (by decide +kernel) (pa_cons (pv 3) pa_nil)) pe_int (nomark _)) (pe_one (pe_cmpR op_eq (pe_callS G_u_law_deep (hr.mono (by decide)) rfl T.g_u_law_deep F_u_law_deep.kp b_u_law_deep (fun σ => passAt (takes_of rfl rfl rfl rfl) σ) (pa_cons (pv 3) pa_nil)) pe_int (nomark _)))))))))))), ?_⟩
  rintro ⟨which_, found_, data_, ⟨⟩⟩ F0 H0 Q KP L
  show Blk K F0 H0 KP _ [iM which_, iM found_, iM data_, none] (m_u_law_right which_ found_ data_)
  unfold m_u_law_right
  have ht_ := ((et_test (ev_op opx_eqS mild_ok (ev_ixTC (i := 0) (f := fun (x : (T2 Str D)) => x.a) (ev_var (i := 1) (x := found_) rfl) (fun x => ⟨_, rfl, rfl⟩)) (ev_str (x := "refused")))) : EvT K (W0 E) [iM which_, iM found_, iM data_, none] _ _)
  refine blk_seq (blk_if2 L trivial (by exact ht_) ?_ ?_)
  · have hr_ := ((ev_op opx_eqD mild_need (ev_ixTC (i := 1) (f := fun (x : (T2 Str D)) => x.b) (ev_var (i := 1) (x := found_) rfl) (fun x => ⟨_, rfl, rfl⟩)) (ev_str (x := "form"))) : EvX K (W0 E) [iM which_, iM found_, iM data_, none] _ _)
    exact blk_ret L trivial (by exact hr_)
  · refine blk_nil ?_
    try refine Blk.nx ?_
    have hs_ := ((ev_ixTC (i := 1) (f := fun (x : (T2 Str D)) => x.b) (ev_var (i := 1) (x := found_) rfl) (fun x => ⟨_, rfl, rfl⟩)) : EvX K (W0 E) [iM which_, iM found_, iM data_, none] _ _)
    refine blk_seq (blk_set (i := 3) L trivial (by exact hs_) fun value_ => ?_)
    show Blk _ _ _ _ _ [iM which_, iM found_, iM data_, iM value_] _
    try refine Blk.nx ?_
    have ht_ := ((et_or (et_not (et_B (ev_call (f := (fun (p : D × Unit) => m_u_law_fits 12 p.1)) (ea_cons (ev_var (i := 3) (x := value_) rfl) ea_nil)))) (et_or (et_test (ev_op (opx_B0 (g := fun i j => decide (j < i))) mild_ok (ev_call (f := (fun (p : D × Unit) => m_u_law_deep 12 p.1)) (ea_cons (ev_var (i := 3) (x := value_) rfl) ea_nil)) (ev_int (i := 8)))) (et_or (et_test (ev_op (opx_B0 (g := fun i j => decide (j < i))) mild_ok (ev_call (f := (fun (p : D × Unit) => m_u_law_parts 12 p.1)) (ea_cons (ev_var (i := 3) (x := value_) rfl) ea_nil)) (ev_int (i := 64)))) (et_test (ev_op opx_neD mild_need (ev_call (f := (fun (p : D × Unit) => m_u_law_tree 12 p.1)) (ea_cons (ev_var (i := 3) (x := value_) rfl) ea_nil)) (ev_var (i := 2) (x := data_) rfl)))))) : EvT K (W0 E) [iM which_, iM found_, iM data_, iM value_] _ _)
    refine blk_seq (blk_if2 L trivial (by exact ht_) ?_ ?_)
    · have hr_ := ((ev_bl (b := false)) : EvX K (W0 E) [iM which_, iM found_, iM data_, iM value_] _ _)
      exact blk_ret L trivial (by exact hr_)
    · refine blk_nil ?_
      try refine Blk.nx ?_
      have hr_ := ((ev_orV (ev_op opx_eqI mild_ok (ev_var (i := 0) (x := which_) rfl) (ev_int (i := 1))) (ev_andV (ev_isi isi_tuple (ev_var (i := 3) (x := value_) rfl)) (ev_andV (ev_op opx_eqI mild_ok (ev_lenD (ev_var (i := 3) (x := value_) rfl)) (ev_int (i := 2))) (ev_op opx_eqI mild_ok (ev_call (f := (fun (p : D × Unit) => m_u_law_deep 12 p.1)) (ea_cons (ev_var (i := 3) (x := value_) rfl) ea_nil)) (ev_int (i := 1)))))) : EvX K (W0 E) [iM which_, iM found_, iM data_, iM value_] _ _)
      exact blk_ret L trivial (by exact hr_)
noncomputable def m_law_l7 (near_ : (List Int)) (k7 : Unit → Res Bool) : List Int → Unit → Res Bool
  | [], s => k7 s
  | x284 :: r7, _ =>   (fun (which_ : Int) => (((((m_u_law_told which_ (toD near_)).bind fun a285 => Res.ok (a285, (near_, ()))).bind fun a288 => Res.ok (which_, a288)).bind fun p289 => m_u_law_right p289.1 p289.2.1 p289.2.2.1).bind fun (t290 : Bool) => Res.ok (!t290)).bind fun b => cond b   ((Res.ok false))   (m_law_l7 near_ k7 r7 ())) x284
noncomputable def m_law_l10 (k10 : Unit → Res Bool) : List (List Int) → Unit → Res Bool
  | [], s => k10 s
  | x338 :: r10, _ =>   (fun (bad_ : (List Int)) => ((m_u_law_told (3 : Int) (toD bad_)).bind fun (t339 : (T2 Str D)) => Res.need ((toD t339).okq = true ∧ (toD (T2.mk ("refused" : Str) ("form" : Str))).okq = true) (Res.ok (!pyEq (toD t339) (toD (T2.mk ("refused" : Str) ("form" : Str)))))).bind fun b => cond b   ((Res.ok false))   (m_law_l10 k10 r10 ())) x338
noncomputable def m_law_k11 (pair_ : (T2 Int Int)) (g1 : Unit → Res Bool) : Unit → Res Bool := fun _ =>   (((m_u_law_told (2 : Int) (toD (T2.mk ((-(1 : Int)) - pair_.b) (1 : Int)))).bind fun (t340 : (T2 Str D)) => Res.need ((toD t340).okq = true ∧ (toD (T2.mk ("refused" : Str) ("range" : Str))).okq = true) (Res.ok (!pyEq (toD t340) (toD (T2.mk ("refused" : Str) ("range" : Str)))))).bind fun b352 => cond b352 (Res.ok true) (((((((((Res.need (CShl (1 : Int) (520 : Int)) (Res.ok ((1 : Int) * 2 ^ (520 : Int).toNat))).bind fun a341 => Res.ok (a341, ())).bind fun a344 => Res.ok ((1 : Int), a344)).bind fun p345 => Res.ok (T2.mk p345.1 p345.2.1)).bind fun (x : (T2 Int Int)) => Res.ok (toD x)).bind fun a346 => Res.ok (a346, ())).bind fun a349 => Res.ok ((2 : Int), a349)).bind fun p350 => m_u_law_told p350.1 p350.2.1).bind fun (t351 : (T2 Str D)) => Res.need ((toD t351).okq = true ∧ (toD (T2.mk ("refused" : Str) ("range" : Str))).okq = true) (Res.ok (!pyEq (toD t351) (toD (T2.mk ("refused" : Str) ("range" : Str))))))).bind fun b => cond b   ((Res.ok false))   (g1 ())
noncomputable def m_law_k12 (script_ : (Ro Int)) (k_ : Int) (cell_ : Int) (found_ : (T2 Str D)) (g1 : Unit → Res Bool) : Unit → Res Bool := fun _ =>   (((((((((Res.ok found_.b)).bind D.asInts).bind fun (t291 : (List Int)) => Res.need (t291.length + ([(cell_ % (256 : Int))] : List Int).length ≤ 16777216) (Res.ok (t291 ++ ([(cell_ % (256 : Int))] : List Int)))).bind fun (x : (List Int)) => Res.ok (toD x)).bind fun a292 => Res.ok (a292, ())).bind fun a295 => Res.ok ((1 : Int), a295)).bind fun p296 => m_u_law_told p296.1 p296.2.1).bind fun (t297 : (T2 Str D)) => Res.need ((toD t297).okq = true ∧ (toD (T2.mk ("refused" : Str) ("form" : Str))).okq = true) (Res.ok (!pyEq (toD t297) (toD (T2.mk ("refused" : Str) ("form" : Str)))))).bind fun b => cond b   ((Res.ok false))   (((((((m_u_law_cell script_ ((9 : Int) + k_)).bind fun a298 => Res.ok (a298, ())).bind fun p300 => Res.ok (Int.natAbs p300.1 : Int)).bind fun (t301 : Int) => (Res.need (CShl (1 : Int) (520 : Int)) (Res.ok ((1 : Int) * 2 ^ (520 : Int).toNat))).bind fun (t302 : Int) => Res.need (0 < t302) (Res.ok (t301 % t302))).bind fun a310 => (((((m_u_law_cell script_ ((12 : Int) + k_)).bind fun a303 => Res.ok (a303, ())).bind fun p305 => Res.ok (Int.natAbs p305.1 : Int)).bind fun (t306 : Int) => (Res.need (CShl (1 : Int) (9 : Int)) (Res.ok ((1 : Int) * 2 ^ (9 : Int).toNat))).bind fun (t307 : Int) => Res.need (0 < t307) (Res.ok (t306 % t307))).bind fun a308 => Res.ok (a308, ())).bind fun a311 => Res.ok (a310, a311)).bind fun p312 => Res.ok (T2.mk p312.1 p312.2.1)).bind fun (pair_ : (T2 Int Int)) =>   (m_u_law_told (2 : Int) (toD pair_)).bind fun (form_ : (T2 Str D)) =>   ((((((m_u_law_tree 12 (toD pair_)).bind fun a313 => Res.ok (a313, ())).bind fun a316 => Res.ok (("told" : Str), a316)).bind fun p317 => Res.ok (T2.mk p317.1 p317.2.1)).bind fun (t318 : (T2 Str (List Int))) => Res.need ((toD form_).okq = true ∧ (toD t318).okq = true) (Res.ok (!pyEq (toD form_) (toD t318)))).bind fun b325 => cond b325 (Res.ok true) ((((((((Res.ok form_.b)).bind D.asList).bind fun (x : (List D)) => Res.ok (toD x)).bind fun a319 => Res.ok (a319, ())).bind fun a322 => Res.ok ((3 : Int), a322)).bind fun p323 => m_u_law_told p323.1 p323.2.1).bind fun (t324 : (T2 Str D)) => Res.need ((toD t324).okq = true ∧ (toD (T2.mk ("told" : Str) pair_)).okq = true) (Res.ok (!pyEq (toD t324) (toD (T2.mk ("told" : Str) pair_)))))).bind fun b => cond b   ((Res.ok false))   ((((m_u_law_tree 12 (toD (T3.mk pair_.a pair_.b (T1.mk (1 : Int)).a))).bind fun a335 => ((m_u_law_tree 12 (toD (T1.mk pair_.a))).bind fun a333 => ((m_u_law_tree 12 (toD (T2.mk pair_ (1 : Int)))).bind fun a331 => ((m_u_law_form (5 : Int)).bind fun a329 => (((((Res.ok form_.b)).bind D.asInts).bind fun (t326 : (List Int)) => Res.need (t326.length + ([(0 : Int)] : List Int).length ≤ 16777216) (Res.ok (t326 ++ ([(0 : Int)] : List Int)))).bind fun a327 => Res.ok (a327, ())).bind fun a330 => Res.ok (a329, a330)).bind fun a332 => Res.ok (a331, a332)).bind fun a334 => Res.ok (a333, a334)).bind fun a336 => Res.ok (a335, a336)).bind fun p337 => Res.ok ([p337.1, p337.2.1, p337.2.2.1, p337.2.2.2.1, p337.2.2.2.2.1] : List (List Int))).bind fun (xs353 : List (List Int)) => m_law_l10 (m_law_k11 pair_ (g1)) xs353 ()))
noncomputable def m_law_k2 (script_ : (Ro Int)) (k_ : Int) (cell_ : Int) (g1 : Unit → Res Bool) : D → Res Bool := fun value_ =>   (m_u_law_told (0 : Int) value_).bind fun (found_ : (T2 Str D)) =>   (((m_u_law_deep 12 value_).bind fun (t259 : Int) => Res.ok (decide ((8 : Int) < t259))).bind fun b261 => cond b261 (Res.ok true) ((m_u_law_parts 12 value_).bind fun (t260 : Int) => Res.ok (decide ((64 : Int) < t260)))).bind fun b => cond b   ((Res.need ((toD found_).okq = true ∧ (toD (T2.mk ("refused" : Str) ("range" : Str))).okq = true) (Res.ok (!pyEq (toD found_) (toD (T2.mk ("refused" : Str) ("range" : Str)))))).bind fun b => cond b   ((Res.ok false))   ((m_u_law_tree 12 value_).bind fun (form_ : (List Int)) =>   ((m_u_law_told (1 : Int) (toD form_)).bind fun (t262 : (T2 Str D)) => Res.need ((toD t262).okq = true ∧ (toD (T2.mk ("refused" : Str) ("form" : Str))).okq = true) (Res.ok (!pyEq (toD t262) (toD (T2.mk ("refused" : Str) ("form" : Str)))))).bind fun b => cond b   ((Res.ok false))   (g1 ())))   ((cond (!(found_.a == ("told" : Str))) (Res.ok true) ((((((m_u_law_tree 12 value_).bind fun a263 => Res.ok (a263, ())).bind fun a266 => Res.ok (found_.b, a266)).bind fun p267 => m_u_law_is_list p267.1 p267.2.1).bind fun (t268 : Bool) => Res.ok (!t268)).bind fun b275 => cond b275 (Res.ok true) ((((((((Res.ok found_.b)).bind D.asList).bind fun (x : (List D)) => Res.ok (toD x)).bind fun a269 => Res.ok (a269, ())).bind fun a272 => Res.ok ((1 : Int), a272)).bind fun p273 => m_u_law_told p273.1 p273.2.1).bind fun (t274 : (T2 Str D)) => Res.need ((toD t274).okq = true ∧ (toD (T2.mk ("told" : Str) value_)).okq = true) (Res.ok (!pyEq (toD t274) (toD (T2.mk ("told" : Str) value_))))))).bind fun b => cond b   ((Res.ok false))   ((((((Res.ok found_.b)).bind D.asInts).bind fun a281 => ((((m_u_law_cell script_ ((6 : Int) + k_)).bind fun a276 => Res.ok (a276, ())).bind fun p278 => Res.ok (Int.natAbs p278.1 : Int)).bind fun a279 => Res.ok (a279, ())).bind fun a282 => Res.ok (a281, a282)).bind fun p283 => m_u_law_near p283.1 p283.2.1).bind fun (near_ : (List Int)) =>   ((Res.ok ([(1 : Int), (3 : Int)] : List Int))).bind fun (xs354 : List Int) => m_law_l7 near_ (m_law_k12 script_ k_ cell_ found_ (g1)) xs354 ()))
noncomputable def m_law_l1 (script_ : (Ro Int)) (k1 : Unit → Res Bool) : List Int → Unit → Res Bool
  | [], s => k1 s
  | x255 :: r1, _ =>   (fun (k_ : Int) => (((m_u_law_cell script_ k_).bind fun a256 => Res.ok (a256, ())).bind fun p258 => Res.ok (Int.natAbs p258.1 : Int)).bind fun (cell_ : Int) =>   (m_u_law_value 12 cell_ (1 : Int) (9 : Int) (90 : Int)).bind fun (value_ : D) =>   ((Res.ok (decide ((cell_ % (4 : Int)) = (1 : Int))))).bind fun b => cond b   ((((((m_u_law_cell script_ ((3 : Int) + k_)).bind fun a355 => Res.ok (a355, ())).bind fun p357 => Res.ok (Int.natAbs p357.1 : Int)).bind fun a358 => Res.ok (a358, ())).bind fun p360 => m_u_law_wide p360.1).bind fun (value_ : D) =>   (m_law_k2 script_ k_ cell_ (m_law_l1 script_ k1 r1)) value_)   ((m_law_k2 script_ k_ cell_ (m_law_l1 script_ k1 r1)) value_)) x255
noncomputable def m_law_k13 : Unit → Res Bool := fun _ =>   (Res.ok true)
noncomputable def m_law (script_ : (Ro Int)) : Res Bool :=
  (Res.need (okRange (3 : Int)) (Res.ok (pyRange 0 (3 : Int)))).bind fun (xs361 : List Int) => m_law_l1 script_ (m_law_k13) xs361 ()
theorem ok_law {P : Program} {w : World} {K : PySem.W.Frag} {mg : Str → Option Value} {base : Heap} (T : Facts P w K mg) {fd : FuncData} (F : FnP K "law" "law" s_law (He.ga K "law") fd) :
    FnOk P w K mg base (L2.CX P w) 22 (He.ga K "law") fd ["script"] (spM K (fun (p : (Ro Int) × Unit) => m_law p.1)) := by
  obtain ⟨fd_u_law_cell, F_u_law_cell⟩ := T.d_u_law_cell
  have G_u_law_cell := ok_u_law_cell (P := P) (w := w) (base := base) T F_u_law_cell
  have b_u_law_cell : Binds K fd_u_law_cell ["script", "k"] [] := F_u_law_cell.bindsN fun _ _ _ _ _ _ us hl => match us, hl with | [_, _], _ => rfl
  obtain ⟨fd_u_law_deep, F_u_law_deep⟩ := T.d_u_law_deep
  have G_u_law_deep := ok_u_law_deep (P := P) (w := w) (base := base) T F_u_law_deep 12
  have b_u_law_deep : Binds K fd_u_law_deep ["value"] [] := F_u_law_deep.bindsN fun _ _ _ _ _ _ us hl => match us, hl with | [_], _ => rfl
  obtain ⟨fd_u_law_form, F_u_law_form⟩ := T.d_u_law_form
  have G_u_law_form := ok_u_law_form (P := P) (w := w) (base := base) T F_u_law_form
  have b_u_law_form : Binds K fd_u_law_form ["number"] [] := F_u_law_form.bindsN fun _ _ _ _ _ _ us hl => match us, hl with | [_], _ => rfl
  obtain ⟨fd_u_law_is_list, F_u_law_is_list⟩ := T.d_u_law_is_list
  have G_u_law_is_list := ok_u_law_is_list (P := P) (w := w) (base := base) T F_u_law_is_list
  have b_u_law_is_list : Binds K fd_u_law_is_list ["found", "due"] [] := F_u_law_is_list.bindsN fun _ _ _ _ _ _ us hl => match us, hl with | [_, _], _ => rfl
  obtain ⟨fd_u_law_near, F_u_law_near⟩ := T.d_u_law_near
  have G_u_law_near := ok_u_law_near (P := P) (w := w) (base := base) T F_u_law_near
  have b_u_law_near : Binds K fd_u_law_near ["form", "cell"] [] := F_u_law_near.bindsN fun _ _ _ _ _ _ us hl => match us, hl with | [_, _], _ => rfl
  obtain ⟨fd_u_law_parts, F_u_law_parts⟩ := T.d_u_law_parts
  have G_u_law_parts := ok_u_law_parts (P := P) (w := w) (base := base) T F_u_law_parts 12
  have b_u_law_parts : Binds K fd_u_law_parts ["value"] [] := F_u_law_parts.bindsN fun _ _ _ _ _ _ us hl => match us, hl with | [_], _ => rfl
  obtain ⟨fd_u_law_right, F_u_law_right⟩ := T.d_u_law_right
  have G_u_law_right := ok_u_law_right (P := P) (w := w) (base := base) T F_u_law_right
  have b_u_law_right : Binds K fd_u_law_right ["which", "found", "data"] [] := F_u_law_right.bindsN fun _ _ _ _ _ _ us hl => match us, hl with | [_, _, _], _ => rfl
  obtain ⟨fd_u_law_told, F_u_law_told⟩ := T.d_u_law_told
  have G_u_law_told := ok_u_law_told (P := P) (w := w) (base := base) T F_u_law_told
  have b_u_law_told : Binds K fd_u_law_told ["which", "data"] [] := F_u_law_told.bindsN fun _ _ _ _ _ _ us hl => match us, hl with | [_, _], _ => rfl
  obtain ⟨fd_u_law_tree, F_u_law_tree⟩ := T.d_u_law_tree
  have G_u_law_tree := ok_u_law_tree (P := P) (w := w) (base := base) T F_u_law_tree 12
  have b_u_law_tree : Binds K fd_u_law_tree ["value"] [] := F_u_law_tree.bindsN fun _ _ _ _ _ _ us hl => match us, hl with | [_], _ => rfl
  obtain ⟨fd_u_law_value, F_u_law_value⟩ := T.d_u_law_value
  have G_u_law_value := ok_u_law_value (P := P) (w := w) (base := base) T F_u_law_value 12
  have b_u_law_value : Binds K fd_u_law_value ["cell", "k", "deep", "most"] [] := F_u_law_value.bindsN fun _ _ _ _ _ _ us hl => match us, hl with | [_, _, _, _], _ => rfl
  obtain ⟨fd_u_law_wide, F_u_law_wide⟩ := T.d_u_law_wide
  have G_u_law_wide := ok_u_law_wide (P := P) (w := w) (base := base) T F_u_law_wide
  have b_u_law_wide : Binds K fd_u_law_wide ["cell"] [] := F_u_law_wide.bindsN fun _ _ _ _ _ _ us hl => match us, hl with | [_], _ => rfl
  refine fn_ok F sc_law (fun y => rfl) (fun cdv A outer s H E hr => ?_)
  refine ⟨_, (pss_cons (ps_for (passes_of rfl) rfl (pi_range1 rfl T.n_range (pa_cons pe_int pa_nil)) (pg_name (i := 1) sc_law.nd rfl (Or.inl rfl)) (pss_cons (ps_set (i := 2) sc_law.nd rfl (Or.inl rfl) (pe_callB call_abs (by rfl) T.n_abs (by decide +kernel) (pa_cons (pe_callS G_u_law_cell (hr.mono (by decide)) rfl T.g_u_law_cell F_u_law_cell.kp b_u_law_cell (fun σ => passAt (takes_of rfl rfl rfl rfl) σ) (pa_cons (pv 0) (pa_cons (pv 1) pa_nil))) pa_nil))) (pss_cons (ps_set (i := 3) sc_law.nd rfl (Or.inl rfl) (pe_callS G_u_law_value (hr.mono (by decide)) rfl T.g_u_law_value F_u_law_value.kp b_u_law_value (fun σ => passAt (takes_of rfl rfl rfl rfl) σ) (pa_cons (pv 2) (pa_cons pe_int (pa_cons pe_int (pa_cons pe_int pa_nil)))))) (pss_cons (ps_if (pt_cmpR op_eq (pe_op op_mod (pv 2) pe_int) pe_int (nomark _)) (pss_one (ps_set (i := 3) sc_law.nd rfl (Or.inl rfl) (pe_callS G_u_law_wide (hr.mono (by decide)) rfl T.g_u_law_wide F_u_law_wide.kp b_u_law_wide (fun σ => passAt (takes_of rfl rfl rfl rfl) σ) (pa_cons (pe_callB call_abs (by rfl) T.n_abs (by decide +kernel) (pa_cons (pe_callS G_u_law_cell (hr.mono (by decide)) rfl T.g_u_law_cell F_u_law_cell.kp b_u_law_cell (fun σ => passAt (takes_of rfl rfl rfl rfl) σ) (pa_cons (pv 0) (pa_cons (pe_op op_add pe_int (pv 1)) pa_nil))) pa_nil)) pa_nil)))) pss_nil) (pss_cons (ps_set (i := 4) sc_law.nd rfl (Or.inl rfl) (pe_callS G_u_law_told (hr.mono (by decide)) rfl T.g_u_law_told F_u_law_told.kp b_u_law_told (fun σ => passAt (takes_of rfl rfl rfl rfl) σ) (pa_cons pe_int (pa_cons (pv 3) pa_nil)))) (pss_cons (ps_if (PW.pt (pw_or (pt_cmpR op_gt (pe_callS G_u_law_deep (hr.mono (by decide)) rfl T.g_u_law_deep F_u_law_deep.kp b_u_law_deep (fun σ => passAt (takes_of rfl rfl rfl rfl) σ) (pa_cons (pv 3) pa_nil)) pe_int (nomark _)) (pw_or1 (pt_cmpR op_gt (pe_callS G_u_law_parts (hr.mono (by decide)) rfl T.g_u_law_parts F_u_law_parts.kp b_u_law_parts (fun σ => passAt (takes_of rfl rfl rfl rfl) σ) (pa_cons (pv 3) pa_nil)) pe_int (nomark _))))) (pss_cons (ps_if (pt_cmpR (op_neD (Room.units hr)) (pv 4) (pe_tup (pa_cons pe_str (pa_cons pe_str pa_nil))) (nomark _)) (pss_one (ps_ret pe_bl)) pss_nil) (pss_cons (ps_set (i := 5) sc_law.nd rfl (Or.inl rfl) (pe_callS G_u_law_tree (hr.mono (by decide)) rfl T.g_u_law_tree F_u_law_tree.kp b_u_law_tree (fun σ => passAt (takes_of rfl rfl rfl rfl) σ) (pa_cons (pv 3) pa_nil))) (pss_cons (ps_if (pt_cmpR (op_neD (Room.units hr)) (pe_callS G_u_law_told (hr.mono (by decide)) rfl T.g_u_law_told F_u_law_told.kp b_u_law_told (fun σ => passAt (takes_of rfl rfl rfl rfl) σ) (pa_cons pe_int (pa_cons (pe_callTy (T := "list") (cr_listof rfl) (by rfl) T.n_list (by decide +kernel) (pa_cons (pv 5) pa_nil)) pa_nil))) (pe_tup (pa_cons pe_str (pa_cons pe_str pa_nil))) (nomark _)) (pss_one (ps_ret pe_bl)) pss_nil) (pss_one ps_continue)))) pss_nil) (pss_cons (ps_if (PW.pt (pw_or (pt_cmpR op_ne (pe_ix (cr_ixT rfl) (pv 4) pe_int (fun _ _ => rfl)) pe_str (nomark _)) (pw_or (pt_not (pt_val (pe_callS G_u_law_is_list (hr.mono (by decide)) rfl T.g_u_law_is_list F_u_law_is_list.kp b_u_law_is_list (fun σ => passAt (takes_of rfl rfl rfl rfl) σ) (pa_cons (pe_ix (cr_ixT rfl) (pv 4) pe_int (fun _ _ => rfl)) (pa_cons (pe_callS G_u_law_tree (hr.mono (by decide)) rfl T.g_u_law_tree F_u_law_tree.kp b_u_law_tree (fun σ => passAt (takes_of rfl rfl rfl rfl) σ) (pa_cons (pv 3) pa_nil)) pa_nil))))) (pw_or1 (pt_cmpR (op_neD (Room.units hr)) (pe_callS G_u_law_told (hr.mono (by decide)) rfl T.g_u_law_told F_u_law_told.kp b_u_law_told (fun σ => passAt (takes_of rfl rfl rfl rfl) σ) (pa_cons pe_int (pa_cons (pe_callTy (T := "list") (cr_listof rfl) (by rfl) T.n_list (by decide +kernel) (pa_cons (pe_ix (cr_ixT rfl) (pv 4) pe_int (fun _ _ => rfl)) pa_nil)) pa_nil))) (pe_tup (pa_cons pe_str (pa_cons (pv 3) pa_nil))) (nomark _)))))) (pss_one (ps_ret pe_bl)) pss_nil) (pss_cons (ps_set (i := 6) sc_law.nd rfl (Or.inl rfl) (pe_callS G_u_law_near (hr.mono (by decide)) rfl T.g_u_law_near F_u_law_near.kp b_u_law_near (fun σ => passAt (takes_of rfl rfl rfl rfl) σ) (pa_cons (pe_ix (cr_ixT rfl) (pv 4) pe_int (fun _ _ => rfl)) (pa_cons (pe_callB call_abs (by rfl) T.n_abs (by decide +kernel) (pa_cons (pe_callS G_u_law_cell (hr.mono (by decide)) rfl T.g_u_law_cell F_u_law_cell.kp b_u_law_cell (fun σ => passAt (takes_of rfl rfl rfl rfl) σ) (pa_cons (pv 0) (pa_cons (pe_op op_add pe_int (pv 1)) pa_nil))) pa_nil)) pa_nil)))) (pss_cons (ps_for (passes_of rfl) rfl (pi_list (pe_lst (pa_cons pe_int (pa_cons pe_int pa_nil)))) (pg_name (i := 7) sc_law.nd rfl (Or.inl rfl)) (pss_one (ps_if (pt_not (pt_val (pe_callS G_u_law_right (hr.mono (by decide)) rfl T.g_u_law_right F_u_law_right.kp b_u_law_right (fun σ => passAt (takes_of rfl rfl rfl rfl) σ) (pa_cons (pv 7) (pa_cons (pe_callS G_u_law_told (hr.mono (by decide)) rfl T.g_u_law_told F_u_law_told.kp b_u_law_told (fun σ => passAt (takes_of rfl rfl rfl rfl) σ) (pa_cons (pv 7) (pa_cons (pe_callTy (T := "list") (cr_listof rfl) (by rfl) T.n_list (by decide +kernel) (pa_cons (pv 6) pa_nil)) pa_nil))) (pa_cons (pv 6) pa_nil)))))) (pss_one (ps_ret pe_bl)) pss_nil))) (pss_cons (ps_if (pt_cmpR (op_neD (Room.units hr)) (pe_callS G_u_law_told (hr.mono (by decide)) rfl T.g_u_law_told F_u_law_told.kp b_u_law_told (fun σ => passAt (takes_of rfl rfl rfl rfl) σ) (pa_cons pe_int (pa_cons (pe_op op_cat (pe_ix (cr_ixT rfl) (pv 4) pe_int (fun _ _ => rfl)) (pe_lst (pa_cons (pe_op op_mod (pv 2) pe_int) pa_nil))) pa_nil))) (pe_tup (pa_cons pe_str (pa_cons pe_str pa_nil))) (nomark _)) (pss_one (ps_ret pe_bl)) pss_nil) (pss_cons (ps_set (i := 8) sc_law.nd rfl (Or.inl rfl) (pe_tup (pa_cons (pe_op op_mod (pe_callB call_abs (by rfl) T.n_abs (by decide +kernel) (pa_cons (pe_callS G_u_law_cell (hr.mono (by decide)) rfl T.g_u_law_cell F_u_law_cell.kp b_u_law_cell (fun σ => passAt (takes_of rfl rfl rfl rfl) σ) (pa_cons (pv 0) (pa_cons (pe_op op_add pe_int (pv 1)) pa_nil))) pa_nil)) (pe_op op_shlW pe_int pe_int)) (pa_cons (pe_op op_mod (pe_callB call_abs (by rfl) T.n_abs (by decide +kernel) (pa_cons (pe_callS G_u_law_cell (hr.mono (by decide)) rfl T.g_u_law_cell F_u_law_cell.kp b_u_law_cell (fun σ => passAt (takes_of rfl rfl rfl rfl) σ) (pa_cons (pv 0) (pa_cons (pe_op op_add pe_int (pv 1)) pa_nil))) pa_nil)) (pe_op op_shlW pe_int pe_int)) pa_nil)))) (pss_cons (ps_set (i := 5) sc_law.nd rfl (Or.inl rfl) (pe_callS G_u_law_told (hr.mono (by decide)) rfl T.g_u_law_told F_u_law_told.kp b_u_law_told (fun σ => passAt (takes_of rfl rfl rfl rfl) σ) (pa_cons pe_int (pa_cons (pv 8) pa_nil)))) (pss_cons (ps_if (PW.pt (pw_or (pt_cmpR (op_neD (Room.units hr)) (pv 5) (pe_tup (pa_cons pe_str (pa_cons (pe_callS G_u_law_tree (hr.mono (by decide)) rfl T.g_u_law_tree F_u_law_tree.kp b_u_law_tree (fun σ => passAt (takes_of rfl rfl rfl rfl) σ) (pa_cons (pv 8) pa_nil)) pa_nil))) (nomark _)) (pw_or1 (pt_cmpR (op_neD (Room.units hr)) (pe_callS G_u_law_told (hr.mono (by decide)) rfl T.g_u_law_told F_u_law_told.kp b_u_law_told (fun σ => passAt (takes_of rfl rfl rfl rfl) σ) (pa_cons pe_int (pa_cons (pe_callTy (T := "list") (cr_listof rfl) (by rfl) T.n_list (by decide +kernel) (pa_cons (pe_ix (cr_ixT rfl) (pv 5) pe_int (fun _ _ => rfl)) pa_nil)) pa_nil))) (pe_tup (pa_cons pe_str (pa_cons (pv 8) pa_nil))) (nomark _))))) (pss_one (ps_ret pe_bl)) pss_nil) (pss_cons (ps_for (passes_of rfl) rfl (pi_list (pe_lst (pa_cons (pe_callS G_u_law_tree (hr.mono (by decide)) rfl T.g_u_law_tree F_u_law_tree.kp b_u_law_tree (fun σ => passAt (takes_of rfl rfl rfl rfl) σ) (pa_cons (pe_op op_catT (pv 8) (pe_tup (pa_cons pe_int pa_nil))) pa_nil)) (pa_cons (pe_callS G_u_law_tree (hr.mono (by decide)) rfl T.g_u_law_tree F_u_law_tree.kp b_u_law_tree (fun σ => passAt (takes_of rfl rfl rfl rfl) σ) (pa_cons (pe_tup (pa_cons (pe_ix (cr_ixT rfl) (pv 8) pe_int (fun _ _ => rfl)) pa_nil)) pa_nil)) (pa_cons (pe_callS G_u_law_tree (hr.mono (by decide)) rfl T.g_u_law_tree F_u_law_tree.kp b_u_law_tree (fun σ => passAt (takes_of rfl rfl rfl rfl) σ) (pa_cons (pe_tup (pa_cons (pv 8) (pa_cons pe_int pa_nil))) pa_nil)) (pa_cons (pe_callS G_u_law_form (hr.mono (by decide)) rfl T.g_u_law_form F_u_law_form.kp b_u_law_form (fun σ => passAt (takes_of rfl rfl rfl rfl) σ) (pa_cons pe_int pa_nil)) (pa_cons (pe_op op_cat (pe_ix (cr_ixT rfl) (pv 5) pe_int (fun _ _ => rfl)) (pe_lst (pa_cons pe_int pa_nil))) pa_nil))))))) (pg_name (i := 9) sc_law.nd rfl (Or.inl rfl)) (pss_one (ps_if (pt_cmpR (op_neD (Room.units hr)) (pe_callS G_u_law_told (hr.mono (by decide)) rfl T.g_u_law_told F_u_law_told.kp b_u_law_told (fun σ => passAt (takes_of rfl rfl rfl rfl) σ) (pa_cons pe_int (pa_cons (pv 9) pa_nil))) (pe_tup (pa_cons pe_str (pa_cons pe_str pa_nil))) (nomark _)) (pss_one (ps_ret pe_bl)) pss_nil))) (pss_one (ps_if (PW.pt (pw_or (pt_cmpR (op_neD (Room.units hr)) (pe_callS G_u_law_told (hr.mono (by decide)) rfl T.g_u_law_told F_u_law_told.kp b_u_law_told (fun σ => passAt (takes_of rfl rfl rfl rfl) σ) (pa_cons pe_int (pa_cons (pe_tup (pa_cons (pe_op op_sub (pe_un un_neg pe_int) (pe_ix (cr_ixT rfl) (pv 8) pe_int (fun _ _ => rfl))) (pa_cons pe_int pa_nil))) pa_nil))) (pe_tup (pa_cons pe_str (pa_cons pe_str pa_nil))) (nomark _)) (pw_or1 (pt_cmpR (op_neD (Room.units hr)) (pe_callS G_u_law_told (hr.mono (by decide)) rfl T.g_u_law_told F_u_law_told.kp b_u_law_told (fun σ => passAt (takes_of rfl rfl rfl rfl) σ) (pa_cons pe_int (pa_cons (pe_tup (pa_cons pe_int (pa_cons (pe_op op_shlW pe_int pe_int) pa_nil))) pa_nil))) (pe_tup (pa_cons pe_str (pa_cons pe_str pa_nil))) (nomark _))))) (pss_one (ps_ret pe_bl)) pss_nil)))))))))))))))) (pss_one (ps_ret pe_bl))), ?_⟩
  rintro ⟨script_, ⟨⟩⟩ F0 H0 Q KP L
  show Blk K F0 H0 KP _ [iM script_, none, none, none, none, none, none, none, none, none] (m_law script_)
  unfold m_law
  have hi_ := ((ei_range1 (ev_int (i := 3))) : EvI K (W0 E) [iM script_, none, none, none, none, none, none, none, none, none] _ _)
  refine blk_seq (blk_for (S := Unit) (m_law_l1 script_ (m_law_k13)) (m_law_k13) (fun _ => [iM script_, none, none, none, none, none, none, none, none, none]) () L trivial (by exact hi_) (fun _ => gx_name) (.same (.same (.same (.same (.same (.same (.same (.same (.same (.same .nil)))))))))) (fun _ => rfl) ?_ ?_)
  · intro F1 L1 hB1 x255 r1 s_ N_ hN1
    obtain ⟨⟩ := s_
    show Blk _ _ _ _ _ [iM script_, iM x255, none, none, none, none, none, none, none, none] (m_law_l1 script_ (m_law_k13) (x255 :: r1) ())
    rw [m_law_l1]
    show Blk _ _ _ _ _ _ ((fun (k_ : Int) => _) x255)
    generalize x255 = k_
    show Blk _ _ _ _ _ [iM script_, iM k_, none, none, none, none, none, none, none, none] _
    have hs_ := ((ev_cb cx_abs (fun _ _ h => nomatch h) (ea_cons (ev_call (f := (fun (p : (Ro Int) × Int × Unit) => m_u_law_cell p.1 p.2.1)) (ea_cons (ev_var (i := 0) (x := script_) rfl) (ea_cons (ev_var (i := 1) (x := k_) rfl) ea_nil))) ea_nil)) : EvX K (W0 E) [iM script_, iM k_, none, none, none, none, none, none, none, none] _ _)
    refine blk_seq (blk_set (i := 2) L1 trivial (by exact hs_) fun cell_ => ?_)
    show Blk _ _ _ _ _ [iM script_, iM k_, iM cell_, none, none, none, none, none, none, none] _
    try refine Blk.nx ?_
    have hs_ := ((ev_call (f := (fun (p : Int × Int × Int × Int × Unit) => m_u_law_value 12 p.1 p.2.1 p.2.2.1 p.2.2.2.1)) (ea_cons (ev_var (i := 2) (x := cell_) rfl) (ea_cons (ev_int (i := 1)) (ea_cons (ev_int (i := 9)) (ea_cons (ev_int (i := 90)) ea_nil))))) : EvX K (W0 E) [iM script_, iM k_, iM cell_, none, none, none, none, none, none, none] _ _)
    refine blk_seq (blk_set (i := 3) L1 trivial (by exact hs_) fun value_ => ?_)
    show Blk _ _ _ _ _ [iM script_, iM k_, iM cell_, iM value_, none, none, none, none, none, none] _
    try refine Blk.nx ?_
    have ht_ := ((et_test (ev_op opx_eqI mild_ok (ev_opI (C := (fun _ j => 0 < j)) (g := fun i j => i % j) (fun x y _ h => by cases h; (show (0 : Int) < _; decide)) (ev_var (i := 2) (x := cell_) rfl) (ev_int (i := 4))) (ev_int (i := 1)))) : EvT K (W0 E) [iM script_, iM k_, iM cell_, iM value_, none, none, none, none, none, none] _ _)
    refine blk_seq (blk_ifj (S := D) (fun value_ => [iM script_, iM k_, iM cell_, iM value_, none, none, none, none, none, none]) (m_law_k2 script_ k_ cell_ (m_law_l1 script_ (m_law_k13) r1)) L1 trivial (by exact ht_) ?_ ?_ ?_)
    · intro value_
      show Blk _ _ _ _ _ [iM script_, iM k_, iM cell_, iM value_, none, none, none, none, none, none] ((m_law_k2 script_ k_ cell_ (m_law_l1 script_ (m_law_k13) r1)) value_)
      unfold m_law_k2
      try refine Blk.nx ?_
      have hs_ := ((ev_call (f := (fun (p : Int × D × Unit) => m_u_law_told p.1 p.2.1)) (ea_cons (ev_int (i := 0)) (ea_cons (ev_var (i := 3) (x := value_) rfl) ea_nil))) : EvX K (W0 E) [iM script_, iM k_, iM cell_, iM value_, none, none, none, none, none, none] _ _)
      refine blk_seq (blk_set (i := 4) L1 trivial (by exact hs_) fun found_ => ?_)
      show Blk _ _ _ _ _ [iM script_, iM k_, iM cell_, iM value_, iM found_, none, none, none, none, none] _
      try refine Blk.nx ?_
      have ht_ := ((et_or (et_test (ev_op (opx_B0 (g := fun i j => decide (j < i))) mild_ok (ev_call (f := (fun (p : D × Unit) => m_u_law_deep 12 p.1)) (ea_cons (ev_var (i := 3) (x := value_) rfl) ea_nil)) (ev_int (i := 8)))) (et_test (ev_op (opx_B0 (g := fun i j => decide (j < i))) mild_ok (ev_call (f := (fun (p : D × Unit) => m_u_law_parts 12 p.1)) (ea_cons (ev_var (i := 3) (x := value_) rfl) ea_nil)) (ev_int (i := 64))))) : EvT K (W0 E) [iM script_, iM k_, iM cell_, iM value_, iM found_, none, none, none, none, none] _ _)
      refine blk_seq (blk_if2 L1 trivial (by exact ht_) ?_ ?_)
      · have ht_ := ((et_test (ev_op opx_neD mild_need (ev_var (i := 4) (x := found_) rfl) (ev_tup (f := (fun (y : Str × Str × Unit) => T2.mk y.1 y.2.1)) (ea_cons (ev_str (x := "refused")) (ea_cons (ev_str (x := "range")) ea_nil)) (fun _ => rfl) (fun _ => by show 2 ≤ 100000; decide)))) : EvT K (W0 E) [iM script_, iM k_, iM cell_, iM value_, iM found_, none, none, none, none, none] _ _)
        refine blk_seq (blk_if2 L1 trivial (by exact ht_) ?_ ?_)
        · have hr_ := ((ev_bl (b := false)) : EvX K (W0 E) [iM script_, iM k_, iM cell_, iM value_, iM found_, none, none, none, none, none] _ _)
          exact blk_ret L1 trivial (by exact hr_)
        · refine blk_nil ?_
          try refine Blk.nx ?_
          have hs_ := ((ev_call (f := (fun (p : D × Unit) => m_u_law_tree 12 p.1)) (ea_cons (ev_var (i := 3) (x := value_) rfl) ea_nil)) : EvX K (W0 E) [iM script_, iM k_, iM cell_, iM value_, iM found_, none, none, none, none, none] _ _)
          refine blk_seq (blk_set (i := 5) L1 trivial (by exact hs_) fun form_ => ?_)
          show Blk _ _ _ _ _ [iM script_, iM k_, iM cell_, iM value_, iM found_, iM form_, none, none, none, none] _
          try refine Blk.nx ?_
          have ht_ := ((et_test (ev_op opx_neD mild_need (ev_call (f := (fun (p : Int × D × Unit) => m_u_law_told p.1 p.2.1)) (ea_cons (ev_int (i := 1)) (ea_cons (ev_as (ev_ofN (en_list (ev_var (i := 5) (x := form_) rfl))) toD (fun _ => rfl) rfl) ea_nil))) (ev_tup (f := (fun (y : Str × Str × Unit) => T2.mk y.1 y.2.1)) (ea_cons (ev_str (x := "refused")) (ea_cons (ev_str (x := "form")) ea_nil)) (fun _ => rfl) (fun _ => by show 2 ≤ 100000; decide)))) : EvT K (W0 E) [iM script_, iM k_, iM cell_, iM value_, iM found_, iM form_, none, none, none, none] _ _)
          refine blk_seq (blk_if2 L1 trivial (by exact ht_) ?_ ?_)
          · have hr_ := ((ev_bl (b := false)) : EvX K (W0 E) [iM script_, iM k_, iM cell_, iM value_, iM found_, iM form_, none, none, none, none] _ _)
            exact blk_ret L1 trivial (by exact hr_)
          · refine blk_nil ?_
            try refine Blk.nx ?_
            exact (hN1 ()).weak (.same (.drop (.drop (.drop (.drop (.drop (.same (.same (.same (.same .nil))))))))))
      · refine blk_nil ?_
        try refine Blk.nx ?_
        have ht_ := ((et_or (et_test (ev_op opx_neS mild_ok (ev_ixTC (i := 0) (f := fun (x : (T2 Str D)) => x.a) (ev_var (i := 4) (x := found_) rfl) (fun x => ⟨_, rfl, rfl⟩)) (ev_str (x := "told")))) (et_or (et_not (et_B (ev_call (f := (fun (p : D × (List Int) × Unit) => m_u_law_is_list p.1 p.2.1)) (ea_cons (ev_ixTC (i := 1) (f := fun (x : (T2 Str D)) => x.b) (ev_var (i := 4) (x := found_) rfl) (fun x => ⟨_, rfl, rfl⟩)) (ea_cons (ev_call (f := (fun (p : D × Unit) => m_u_law_tree 12 p.1)) (ea_cons (ev_var (i := 3) (x := value_) rfl) ea_nil)) ea_nil))))) (et_test (ev_op opx_neD mild_need (ev_call (f := (fun (p : Int × D × Unit) => m_u_law_told p.1 p.2.1)) (ea_cons (ev_int (i := 1)) (ea_cons (ev_as (ev_ofN (en_list (ev_cast (f := D.asList) asList_ok asList_x (ev_ixTC (i := 1) (f := fun (x : (T2 Str D)) => x.b) (ev_var (i := 4) (x := found_) rfl) (fun x => ⟨_, rfl, rfl⟩))))) toD (fun _ => rfl) rfl) ea_nil))) (ev_tup (f := (fun (y : Str × D × Unit) => T2.mk y.1 y.2.1)) (ea_cons (ev_str (x := "told")) (ea_cons (ev_var (i := 3) (x := value_) rfl) ea_nil)) (fun _ => rfl) (fun _ => by show 2 ≤ 100000; decide)))))) : EvT K (W0 E) [iM script_, iM k_, iM cell_, iM value_, iM found_, none, none, none, none, none] _ _)
        refine blk_seq (blk_if2 L1 trivial (by exact ht_) ?_ ?_)
        · have hr_ := ((ev_bl (b := false)) : EvX K (W0 E) [iM script_, iM k_, iM cell_, iM value_, iM found_, none, none, none, none, none] _ _)
          exact blk_ret L1 trivial (by exact hr_)
        · refine blk_nil ?_
          try refine Blk.nx ?_
          have hs_ := ((ev_call (f := (fun (p : (List Int) × Int × Unit) => m_u_law_near p.1 p.2.1)) (ea_cons (ev_cast (f := D.asInts) asInts_ok asInts_x (ev_ixTC (i := 1) (f := fun (x : (T2 Str D)) => x.b) (ev_var (i := 4) (x := found_) rfl) (fun x => ⟨_, rfl, rfl⟩))) (ea_cons (ev_cb cx_abs (fun _ _ h => nomatch h) (ea_cons (ev_call (f := (fun (p : (Ro Int) × Int × Unit) => m_u_law_cell p.1 p.2.1)) (ea_cons (ev_var (i := 0) (x := script_) rfl) (ea_cons (ev_op (opx_I0 (g := fun i j => i + j)) mild_ok (ev_int (i := 6)) (ev_var (i := 1) (x := k_) rfl)) ea_nil))) ea_nil)) ea_nil))) : EvX K (W0 E) [iM script_, iM k_, iM cell_, iM value_, iM found_, none, none, none, none, none] _ _)
          refine blk_seq (blk_set (i := 6) L1 trivial (by exact hs_) fun near_ => ?_)
          show Blk _ _ _ _ _ [iM script_, iM k_, iM cell_, iM value_, iM found_, none, iM near_, none, none, none] _
          try refine Blk.nx ?_
          have hi_ := ((ei_list (ev_ofN (en_lst (f := (fun y => ([y.1, y.2.1] : List Int))) (ea_cons (ev_int (i := 1)) (ea_cons (ev_int (i := 3)) ea_nil)) (fun _ => rfl) (fun _ => by show 2 ≤ 100000; decide)))) : EvI K (W0 E) [iM script_, iM k_, iM cell_, iM value_, iM found_, none, iM near_, none, none, none] _ _)
          refine blk_seq (blk_for (S := Unit) (m_law_l7 near_ (m_law_k12 script_ k_ cell_ found_ (m_law_l1 script_ (m_law_k13) r1))) (m_law_k12 script_ k_ cell_ found_ (m_law_l1 script_ (m_law_k13) r1)) (fun _ => [iM script_, iM k_, iM cell_, iM value_, iM found_, none, iM near_, none, none, none]) () L1 trivial (by exact hi_) (fun _ => gx_name) (.same (.same (.same (.same (.same (.same (.same (.same (.same (.same .nil)))))))))) (fun _ => rfl) ?_ ?_)
          · intro F7 L7 hB7 x284 r7 s_ N_ hN7
            obtain ⟨⟩ := s_
            show Blk _ _ _ _ _ [iM script_, iM k_, iM cell_, iM value_, iM found_, none, iM near_, iM x284, none, none] (m_law_l7 near_ (m_law_k12 script_ k_ cell_ found_ (m_law_l1 script_ (m_law_k13) r1)) (x284 :: r7) ())
            rw [m_law_l7]
            show Blk _ _ _ _ _ _ ((fun (which_ : Int) => _) x284)
            generalize x284 = which_
            show Blk _ _ _ _ _ [iM script_, iM k_, iM cell_, iM value_, iM found_, none, iM near_, iM which_, none, none] _
            have ht_ := ((et_not (et_B (ev_call (f := (fun (p : Int × (T2 Str D) × (List Int) × Unit) => m_u_law_right p.1 p.2.1 p.2.2.1)) (ea_cons (ev_var (i := 7) (x := which_) rfl) (ea_cons (ev_call (f := (fun (p : Int × D × Unit) => m_u_law_told p.1 p.2.1)) (ea_cons (ev_var (i := 7) (x := which_) rfl) (ea_cons (ev_as (ev_ofN (en_list (ev_var (i := 6) (x := near_) rfl))) toD (fun _ => rfl) rfl) ea_nil))) (ea_cons (ev_var (i := 6) (x := near_) rfl) ea_nil)))))) : EvT K (W0 E) [iM script_, iM k_, iM cell_, iM value_, iM found_, none, iM near_, iM which_, none, none] _ _)
            refine blk_if2 L7 trivial (by exact ht_) ?_ ?_
            · have hr_ := ((ev_bl (b := false)) : EvX K (W0 E) [iM script_, iM k_, iM cell_, iM value_, iM found_, none, iM near_, iM which_, none, none] _ _)
              exact blk_ret L7 trivial (by exact hr_)
            · refine blk_nil ?_
              try refine Blk.nx ?_
              exact (hN7 ()).weak (.same (.same (.same (.same (.same (.same (.same (.drop (.same (.same .nil))))))))))
          · intro _
            show Blk _ _ _ _ _ [iM script_, iM k_, iM cell_, iM value_, iM found_, none, iM near_, none, none, none] ((m_law_k12 script_ k_ cell_ found_ (m_law_l1 script_ (m_law_k13) r1)) ())
            unfold m_law_k12
            try refine Blk.nx ?_
            have ht_ := ((et_test (ev_op opx_neD mild_need (ev_call (f := (fun (p : Int × D × Unit) => m_u_law_told p.1 p.2.1)) (ea_cons (ev_int (i := 1)) (ea_cons (ev_as (ev_ofN (en_cat (ev_cast (f := D.asInts) asInts_ok asInts_x (ev_ixTC (i := 1) (f := fun (x : (T2 Str D)) => x.b) (ev_var (i := 4) (x := found_) rfl) (fun x => ⟨_, rfl, rfl⟩))) (ev_ofN (en_lst (f := (fun y => ([y.1] : List Int))) (ea_cons (ev_opI (C := (fun _ j => 0 < j)) (g := fun i j => i % j) (fun x y _ h => by cases h; (show (0 : Int) < _; decide)) (ev_var (i := 2) (x := cell_) rfl) (ev_int (i := 256))) ea_nil) (fun _ => rfl) (fun _ => by show 1 ≤ 100000; decide))))) toD (fun _ => rfl) rfl) ea_nil))) (ev_tup (f := (fun (y : Str × Str × Unit) => T2.mk y.1 y.2.1)) (ea_cons (ev_str (x := "refused")) (ea_cons (ev_str (x := "form")) ea_nil)) (fun _ => rfl) (fun _ => by show 2 ≤ 100000; decide)))) : EvT K (W0 E) [iM script_, iM k_, iM cell_, iM value_, iM found_, none, iM near_, none, none, none] _ _)
            refine blk_seq (blk_if2 L1 trivial (by exact ht_) ?_ ?_)
            · have hr_ := ((ev_bl (b := false)) : EvX K (W0 E) [iM script_, iM k_, iM cell_, iM value_, iM found_, none, iM near_, none, none, none] _ _)
              exact blk_ret L1 trivial (by exact hr_)
            · refine blk_nil ?_
              try refine Blk.nx ?_
              have hs_ := ((ev_tup (f := (fun (y : Int × Int × Unit) => T2.mk y.1 y.2.1)) (ea_cons (ev_op (opx_I (C := (fun _ j => 0 < j)) (g := fun i j => i % j)) mild_need (ev_cb cx_abs (fun _ _ h => nomatch h) (ea_cons (ev_call (f := (fun (p : (Ro Int) × Int × Unit) => m_u_law_cell p.1 p.2.1)) (ea_cons (ev_var (i := 0) (x := script_) rfl) (ea_cons (ev_op (opx_I0 (g := fun i j => i + j)) mild_ok (ev_int (i := 9)) (ev_var (i := 1) (x := k_) rfl)) ea_nil))) ea_nil)) (ev_op (opx_I (C := CShl) (g := fun i j => i * 2 ^ j.toNat)) mild_need (ev_int (i := 1)) (ev_int (i := 520)))) (ea_cons (ev_op (opx_I (C := (fun _ j => 0 < j)) (g := fun i j => i % j)) mild_need (ev_cb cx_abs (fun _ _ h => nomatch h) (ea_cons (ev_call (f := (fun (p : (Ro Int) × Int × Unit) => m_u_law_cell p.1 p.2.1)) (ea_cons (ev_var (i := 0) (x := script_) rfl) (ea_cons (ev_op (opx_I0 (g := fun i j => i + j)) mild_ok (ev_int (i := 12)) (ev_var (i := 1) (x := k_) rfl)) ea_nil))) ea_nil)) (ev_op (opx_I (C := CShl) (g := fun i j => i * 2 ^ j.toNat)) mild_need (ev_int (i := 1)) (ev_int (i := 9)))) ea_nil)) (fun _ => rfl) (fun _ => by show 2 ≤ 100000; decide)) : EvX K (W0 E) [iM script_, iM k_, iM cell_, iM value_, iM found_, none, iM near_, none, none, none] _ _)
              refine blk_seq (blk_set (i := 8) L1 trivial (by exact hs_) fun pair_ => ?_)
              show Blk _ _ _ _ _ [iM script_, iM k_, iM cell_, iM value_, iM found_, none, iM near_, none, iM pair_, none] _
              try refine Blk.nx ?_
              have hs_ := ((ev_call (f := (fun (p : Int × D × Unit) => m_u_law_told p.1 p.2.1)) (ea_cons (ev_int (i := 2)) (ea_cons (ev_as (ev_var (i := 8) (x := pair_) rfl) toD (fun _ => rfl) rfl) ea_nil))) : EvX K (W0 E) [iM script_, iM k_, iM cell_, iM value_, iM found_, none, iM near_, none, iM pair_, none] _ _)
              refine blk_seq (blk_set (i := 5) L1 trivial (by exact hs_) fun form_ => ?_)
              show Blk _ _ _ _ _ [iM script_, iM k_, iM cell_, iM value_, iM found_, iM form_, iM near_, none, iM pair_, none] _
              try refine Blk.nx ?_
              have ht_ := ((et_or (et_test (ev_op opx_neD mild_need (ev_var (i := 5) (x := form_) rfl) (ev_tup (f := (fun (y : Str × (List Int) × Unit) => T2.mk y.1 y.2.1)) (ea_cons (ev_str (x := "told")) (ea_cons (ev_call (f := (fun (p : D × Unit) => m_u_law_tree 12 p.1)) (ea_cons (ev_as (ev_var (i := 8) (x := pair_) rfl) toD (fun _ => rfl) rfl) ea_nil)) ea_nil)) (fun _ => rfl) (fun _ => by show 2 ≤ 100000; decide)))) (et_test (ev_op opx_neD mild_need (ev_call (f := (fun (p : Int × D × Unit) => m_u_law_told p.1 p.2.1)) (ea_cons (ev_int (i := 3)) (ea_cons (ev_as (ev_ofN (en_list (ev_cast (f := D.asList) asList_ok asList_x (ev_ixTC (i := 1) (f := fun (x : (T2 Str D)) => x.b) (ev_var (i := 5) (x := form_) rfl) (fun x => ⟨_, rfl, rfl⟩))))) toD (fun _ => rfl) rfl) ea_nil))) (ev_tup (f := (fun (y : Str × (T2 Int Int) × Unit) => T2.mk y.1 y.2.1)) (ea_cons (ev_str (x := "told")) (ea_cons (ev_var (i := 8) (x := pair_) rfl) ea_nil)) (fun _ => rfl) (fun _ => by show 2 ≤ 100000; decide))))) : EvT K (W0 E) [iM script_, iM k_, iM cell_, iM value_, iM found_, iM form_, iM near_, none, iM pair_, none] _ _)
              refine blk_seq (blk_if2 L1 trivial (by exact ht_) ?_ ?_)
              · have hr_ := ((ev_bl (b := false)) : EvX K (W0 E) [iM script_, iM k_, iM cell_, iM value_, iM found_, iM form_, iM near_, none, iM pair_, none] _ _)
                exact blk_ret L1 trivial (by exact hr_)
              · refine blk_nil ?_
                try refine Blk.nx ?_
                have hi_ := ((ei_list (ev_ofN (en_lst (f := (fun y => ([y.1, y.2.1, y.2.2.1, y.2.2.2.1, y.2.2.2.2.1] : List (List Int)))) (ea_cons (ev_call (f := (fun (p : D × Unit) => m_u_law_tree 12 p.1)) (ea_cons (ev_as (ev_op (opx_catT (g := fun (x : (T2 Int Int)) (y : (T1 Int)) => (T3.mk x.a x.b y.a)) (fun _ _ => ⟨_, _, rfl, rfl, nofun, nofun, by show 3 ≤ 100000; decide, rfl⟩)) mild_ok (ev_var (i := 8) (x := pair_) rfl) (ev_tup (f := (fun (y : Int × Unit) => T1.mk y.1)) (ea_cons (ev_int (i := 1)) ea_nil) (fun _ => rfl) (fun _ => by show 1 ≤ 100000; decide))) toD (fun _ => rfl) rfl) ea_nil)) (ea_cons (ev_call (f := (fun (p : D × Unit) => m_u_law_tree 12 p.1)) (ea_cons (ev_as (ev_tup (f := (fun (y : Int × Unit) => T1.mk y.1)) (ea_cons (ev_ixTC (i := 0) (f := fun (x : (T2 Int Int)) => x.a) (ev_var (i := 8) (x := pair_) rfl) (fun x => ⟨_, rfl, rfl⟩)) ea_nil) (fun _ => rfl) (fun _ => by show 1 ≤ 100000; decide)) toD (fun _ => rfl) rfl) ea_nil)) (ea_cons (ev_call (f := (fun (p : D × Unit) => m_u_law_tree 12 p.1)) (ea_cons (ev_as (ev_tup (f := (fun (y : (T2 Int Int) × Int × Unit) => T2.mk y.1 y.2.1)) (ea_cons (ev_var (i := 8) (x := pair_) rfl) (ea_cons (ev_int (i := 1)) ea_nil)) (fun _ => rfl) (fun _ => by show 2 ≤ 100000; decide)) toD (fun _ => rfl) rfl) ea_nil)) (ea_cons (ev_call (f := (fun (p : Int × Unit) => m_u_law_form p.1)) (ea_cons (ev_int (i := 5)) ea_nil)) (ea_cons (ev_ofN (en_cat (ev_cast (f := D.asInts) asInts_ok asInts_x (ev_ixTC (i := 1) (f := fun (x : (T2 Str D)) => x.b) (ev_var (i := 5) (x := form_) rfl) (fun x => ⟨_, rfl, rfl⟩))) (ev_ofN (en_lst (f := (fun y => ([y.1] : List Int))) (ea_cons (ev_int (i := 0)) ea_nil) (fun _ => rfl) (fun _ => by show 1 ≤ 100000; decide))))) ea_nil))))) (fun _ => rfl) (fun _ => by show 5 ≤ 100000; decide)))) : EvI K (W0 E) [iM script_, iM k_, iM cell_, iM value_, iM found_, iM form_, iM near_, none, iM pair_, none] _ _)
                refine blk_seq (blk_for (S := Unit) (m_law_l10 (m_law_k11 pair_ (m_law_l1 script_ (m_law_k13) r1))) (m_law_k11 pair_ (m_law_l1 script_ (m_law_k13) r1)) (fun _ => [iM script_, iM k_, iM cell_, iM value_, iM found_, iM form_, iM near_, none, iM pair_, none]) () L1 trivial (by exact hi_) (fun _ => gx_name) (.same (.same (.same (.same (.same (.same (.same (.same (.same (.same .nil)))))))))) (fun _ => rfl) ?_ ?_)
                · intro F10 L10 hB10 x338 r10 s_ N_ hN10
                  obtain ⟨⟩ := s_
                  show Blk _ _ _ _ _ [iM script_, iM k_, iM cell_, iM value_, iM found_, iM form_, iM near_, none, iM pair_, iM x338] (m_law_l10 (m_law_k11 pair_ (m_law_l1 script_ (m_law_k13) r1)) (x338 :: r10) ())
                  rw [m_law_l10]
                  show Blk _ _ _ _ _ _ ((fun (bad_ : (List Int)) => _) x338)
                  generalize x338 = bad_
                  show Blk _ _ _ _ _ [iM script_, iM k_, iM cell_, iM value_, iM found_, iM form_, iM near_, none, iM pair_, iM bad_] _
                  have ht_ := ((et_test (ev_op opx_neD mild_need (ev_call (f := (fun (p : Int × D × Unit) => m_u_law_told p.1 p.2.1)) (ea_cons (ev_int (i := 3)) (ea_cons (ev_as (ev_var (i := 9) (x := bad_) rfl) toD (fun _ => rfl) rfl) ea_nil))) (ev_tup (f := (fun (y : Str × Str × Unit) => T2.mk y.1 y.2.1)) (ea_cons (ev_str (x := "refused")) (ea_cons (ev_str (x := "form")) ea_nil)) (fun _ => rfl) (fun _ => by show 2 ≤ 100000; decide)))) : EvT K (W0 E) [iM script_, iM k_, iM cell_, iM value_, iM found_, iM form_, iM near_, none, iM pair_, iM bad_] _ _)
                  refine blk_if2 L10 trivial (by exact ht_) ?_ ?_
                  · have hr_ := ((ev_bl (b := false)) : EvX K (W0 E) [iM script_, iM k_, iM cell_, iM value_, iM found_, iM form_, iM near_, none, iM pair_, iM bad_] _ _)
                    exact blk_ret L10 trivial (by exact hr_)
                  · refine blk_nil ?_
                    try refine Blk.nx ?_
                    exact (hN10 ()).weak (.same (.same (.same (.same (.same (.same (.same (.same (.same (.drop .nil))))))))))
                · intro _
                  show Blk _ _ _ _ _ [iM script_, iM k_, iM cell_, iM value_, iM found_, iM form_, iM near_, none, iM pair_, none] ((m_law_k11 pair_ (m_law_l1 script_ (m_law_k13) r1)) ())
                  unfold m_law_k11
                  try refine Blk.nx ?_
                  have ht_ := ((et_or (et_test (ev_op opx_neD mild_need (ev_call (f := (fun (p : Int × D × Unit) => m_u_law_told p.1 p.2.1)) (ea_cons (ev_int (i := 2)) (ea_cons (ev_as (ev_tup (f := (fun (y : Int × Int × Unit) => T2.mk y.1 y.2.1)) (ea_cons (ev_op (opx_I0 (g := fun i j => i - j)) mild_ok (ev_un (g := fun i => -i) (ev_int (i := 1))) (ev_ixTC (i := 1) (f := fun (x : (T2 Int Int)) => x.b) (ev_var (i := 8) (x := pair_) rfl) (fun x => ⟨_, rfl, rfl⟩))) (ea_cons (ev_int (i := 1)) ea_nil)) (fun _ => rfl) (fun _ => by show 2 ≤ 100000; decide)) toD (fun _ => rfl) rfl) ea_nil))) (ev_tup (f := (fun (y : Str × Str × Unit) => T2.mk y.1 y.2.1)) (ea_cons (ev_str (x := "refused")) (ea_cons (ev_str (x := "range")) ea_nil)) (fun _ => rfl) (fun _ => by show 2 ≤ 100000; decide)))) (et_test (ev_op opx_neD mild_need (ev_call (f := (fun (p : Int × D × Unit) => m_u_law_told p.1 p.2.1)) (ea_cons (ev_int (i := 2)) (ea_cons (ev_as (ev_tup (f := (fun (y : Int × Int × Unit) => T2.mk y.1 y.2.1)) (ea_cons (ev_int (i := 1)) (ea_cons (ev_op (opx_I (C := CShl) (g := fun i j => i * 2 ^ j.toNat)) mild_need (ev_int (i := 1)) (ev_int (i := 520))) ea_nil)) (fun _ => rfl) (fun _ => by show 2 ≤ 100000; decide)) toD (fun _ => rfl) rfl) ea_nil))) (ev_tup (f := (fun (y : Str × Str × Unit) => T2.mk y.1 y.2.1)) (ea_cons (ev_str (x := "refused")) (ea_cons (ev_str (x := "range")) ea_nil)) (fun _ => rfl) (fun _ => by show 2 ≤ 100000; decide))))) : EvT K (W0 E) [iM script_, iM k_, iM cell_, iM value_, iM found_, iM form_, iM near_, none, iM pair_, none] _ _)
                  refine blk_if2 L1 trivial (by exact ht_) ?_ ?_
                  · have hr_ := ((ev_bl (b := false)) : EvX K (W0 E) [iM script_, iM k_, iM cell_, iM value_, iM found_, iM form_, iM near_, none, iM pair_, none] _ _)
                    exact blk_ret L1 trivial (by exact hr_)
                  · refine blk_nil ?_
                    try refine Blk.nx ?_
                    exact (hN1 ()).weak (.same (.drop (.drop (.drop (.drop (.drop (.drop (.same (.drop (.same .nil))))))))))
    · intro hk2
      have hs_ := ((ev_call (f := (fun (p : Int × Unit) => m_u_law_wide p.1)) (ea_cons (ev_cb cx_abs (fun _ _ h => nomatch h) (ea_cons (ev_call (f := (fun (p : (Ro Int) × Int × Unit) => m_u_law_cell p.1 p.2.1)) (ea_cons (ev_var (i := 0) (x := script_) rfl) (ea_cons (ev_op (opx_I0 (g := fun i j => i + j)) mild_ok (ev_int (i := 3)) (ev_var (i := 1) (x := k_) rfl)) ea_nil))) ea_nil)) ea_nil)) : EvX K (W0 E) [iM script_, iM k_, iM cell_, iM value_, none, none, none, none, none, none] _ _)
      refine blk_set (i := 3) L1 trivial (by exact hs_) fun value_ => ?_
      show Blk _ _ _ _ _ [iM script_, iM k_, iM cell_, iM value_, none, none, none, none, none, none] _
      try refine Blk.nx ?_
      exact (hk2 value_).weak (.same (.same (.same (.same (.same (.same (.same (.same (.same (.same .nil))))))))))
    · intro hk2
      refine blk_nil ?_
      try refine Blk.nx ?_
      exact (hk2 value_).weak (.same (.same (.same (.same (.same (.same (.same (.same (.same (.same .nil))))))))))
  · intro _
    show Blk _ _ _ _ _ [iM script_, none, none, none, none, none, none, none, none, none] ((m_law_k13) ())
    unfold m_law_k13
    try refine Blk.nx ?_
    have hr_ := ((ev_bl (b := true)) : EvX K (W0 E) [iM script_, none, none, none, none, none, none, none, none, none] _ _)
    exact blk_ret L trivial (by exact hr_)
theorem facts_of {K : PySem.W.Frag} {h : Heap} {w : World} {mg : Str → Option Value} (X : K.In h) (G : h.Ns mainGlobals mg) (c : SaysY fas dfs tbs sus exB w K) : Facts Rw.prog w K mg := by
  have cd : He.SaysD fas dfs K := c.t.d
  exact {
    d_is_whole := cd.def_ 0 (d := ⟨("is_whole", none), "is_whole", "is_whole", defArgs s_is_whole, defBody s_is_whole, defScope s_is_whole, [], []⟩) rfl
    g_is_whole := He.glo_ok X G (cd.fact 0 rfl)
    d_to_little := cd.def_ 1 (d := ⟨("to_little", none), "to_little", "to_little", defArgs s_to_little, defBody s_to_little, defScope s_to_little, [], []⟩) rfl
    g_to_little := He.glo_ok X G (cd.fact 1 rfl)
    d_to_big := cd.def_ 2 (d := ⟨("to_big", none), "to_big", "to_big", defArgs s_to_big, defBody s_to_big, defScope s_to_big, [], []⟩) rfl
    g_to_big := He.glo_ok X G (cd.fact 2 rfl)
    d_from_big := cd.def_ 3 (d := ⟨("from_big", none), "from_big", "from_big", defArgs s_from_big, defBody s_from_big, defScope s_from_big, [], []⟩) rfl
    g_from_big := He.glo_ok X G (cd.fact 3 rfl)
    d_is_bytes := cd.def_ 4 (d := ⟨("is_bytes", none), "is_bytes", "is_bytes", defArgs s_is_bytes, defBody s_is_bytes, defScope s_is_bytes, [], []⟩) rfl
    g_is_bytes := He.glo_ok X G (cd.fact 4 rfl)
    d_write_length := cd.def_ 5 (d := ⟨("write_length", none), "write_length", "write_length", defArgs s_write_length, defBody s_write_length, defScope s_write_length, [], []⟩) rfl
    g_write_length := He.glo_ok X G (cd.fact 5 rfl)
    d_read_length := cd.def_ 6 (d := ⟨("read_length", none), "read_length", "read_length", defArgs s_read_length, defBody s_read_length, defScope s_read_length, [], []⟩) rfl
    g_read_length := He.glo_ok X G (cd.fact 6 rfl)
    d_write_number := cd.def_ 7 (d := ⟨("write_number", none), "write_number", "write_number", defArgs s_write_number, defBody s_write_number, defScope s_write_number, [], []⟩) rfl
    g_write_number := He.glo_ok X G (cd.fact 7 rfl)
    d_u_number_content := cd.def_ 8 (d := ⟨("_number_content", none), "_number_content", "_number_content", defArgs s_u_number_content, defBody s_u_number_content, defScope s_u_number_content, [], []⟩) rfl
    g_u_number_content := He.glo_ok X G (cd.fact 8 rfl)
    d_u_part := cd.def_ 9 (d := ⟨("_part", none), "_part", "_part", defArgs s_u_part, defBody s_u_part, defScope s_u_part, [], []⟩) rfl
    g_u_part := He.glo_ok X G (cd.fact 9 rfl)
    d_write_pair := cd.def_ 10 (d := ⟨("write_pair", none), "write_pair", "write_pair", defArgs s_write_pair, defBody s_write_pair, defScope s_write_pair, [], []⟩) rfl
    g_write_pair := He.glo_ok X G (cd.fact 10 rfl)
    d_read_pair := cd.def_ 11 (d := ⟨("read_pair", none), "read_pair", "read_pair", defArgs s_read_pair, defBody s_read_pair, defScope s_read_pair, [], []⟩) rfl
    g_read_pair := He.glo_ok X G (cd.fact 11 rfl)
    d_u_only_part := cd.def_ 12 (d := ⟨("_only_part", none), "_only_part", "_only_part", defArgs s_u_only_part, defBody s_u_only_part, defScope s_u_only_part, [], []⟩) rfl
    g_u_only_part := He.glo_ok X G (cd.fact 12 rfl)
    d_u_split_parts := cd.def_ 13 (d := ⟨("_split_parts", none), "_split_parts", "_split_parts", defArgs s_u_split_parts, defBody s_u_split_parts, defScope s_u_split_parts, [], []⟩) rfl
    g_u_split_parts := He.glo_ok X G (cd.fact 13 rfl)
    d_u_number := cd.def_ 14 (d := ⟨("_number", none), "_number", "_number", defArgs s_u_number, defBody s_u_number, defScope s_u_number, [], []⟩) rfl
    g_u_number := He.glo_ok X G (cd.fact 14 rfl)
    d_write_tree := cd.def_ 15 (d := ⟨("write_tree", none), "write_tree", "write_tree", defArgs s_write_tree, defBody s_write_tree, defScope s_write_tree, [], []⟩) rfl
    g_write_tree := He.glo_ok X G (cd.fact 15 rfl)
    d_u_levels := cd.def_ 16 (d := ⟨("_levels", none), "_levels", "_levels", defArgs s_u_levels, defBody s_u_levels, defScope s_u_levels, [], []⟩) rfl
    g_u_levels := He.glo_ok X G (cd.fact 16 rfl)
    d_u_part_count := cd.def_ 17 (d := ⟨("_part_count", none), "_part_count", "_part_count", defArgs s_u_part_count, defBody s_u_part_count, defScope s_u_part_count, [], []⟩) rfl
    g_u_part_count := He.glo_ok X G (cd.fact 17 rfl)
    d_u_tree_part := cd.def_ 18 (d := ⟨("_tree_part", none), "_tree_part", "_tree_part", defArgs s_u_tree_part, defBody s_u_tree_part, defScope s_u_tree_part, [], []⟩) rfl
    g_u_tree_part := He.glo_ok X G (cd.fact 18 rfl)
    d_read_tree := cd.def_ 19 (d := ⟨("read_tree", none), "read_tree", "read_tree", defArgs s_read_tree, defBody s_read_tree, defScope s_read_tree, [], []⟩) rfl
    g_read_tree := He.glo_ok X G (cd.fact 19 rfl)
    d_u_tree_value := cd.def_ 20 (d := ⟨("_tree_value", none), "_tree_value", "_tree_value", defArgs s_u_tree_value, defBody s_u_tree_value, defScope s_u_tree_value, [], []⟩) rfl
    g_u_tree_value := He.glo_ok X G (cd.fact 20 rfl)
    d_u_law_cell := cd.def_ 21 (d := ⟨("_law_cell", none), "_law_cell", "_law_cell", defArgs s_u_law_cell, defBody s_u_law_cell, defScope s_u_law_cell, [], []⟩) rfl
    g_u_law_cell := He.glo_ok X G (cd.fact 21 rfl)
    d_u_law_twice := cd.def_ 22 (d := ⟨("_law_twice", none), "_law_twice", "_law_twice", defArgs s_u_law_twice, defBody s_u_law_twice, defScope s_u_law_twice, [], []⟩) rfl
    g_u_law_twice := He.glo_ok X G (cd.fact 22 rfl)
    d_u_law_integer := cd.def_ 23 (d := ⟨("_law_integer", none), "_law_integer", "_law_integer", defArgs s_u_law_integer, defBody s_u_law_integer, defScope s_u_law_integer, [], []⟩) rfl
    g_u_law_integer := He.glo_ok X G (cd.fact 23 rfl)
    d_u_law_is_list := cd.def_ 24 (d := ⟨("_law_is_list", none), "_law_is_list", "_law_is_list", defArgs s_u_law_is_list, defBody s_u_law_is_list, defScope s_u_law_is_list, [], []⟩) rfl
    g_u_law_is_list := He.glo_ok X G (cd.fact 24 rfl)
    d_u_law_length := cd.def_ 25 (d := ⟨("_law_length", none), "_law_length", "_law_length", defArgs s_u_law_length, defBody s_u_law_length, defScope s_u_law_length, [], []⟩) rfl
    g_u_law_length := He.glo_ok X G (cd.fact 25 rfl)
    d_u_law_form := cd.def_ 26 (d := ⟨("_law_form", none), "_law_form", "_law_form", defArgs s_u_law_form, defBody s_u_law_form, defScope s_u_law_form, [], []⟩) rfl
    g_u_law_form := He.glo_ok X G (cd.fact 26 rfl)
    d_u_law_tree := cd.def_ 27 (d := ⟨("_law_tree", none), "_law_tree", "_law_tree", defArgs s_u_law_tree, defBody s_u_law_tree, defScope s_u_law_tree, [], []⟩) rfl
    g_u_law_tree := He.glo_ok X G (cd.fact 27 rfl)
    d_u_law_value := cd.def_ 28 (d := ⟨("_law_value", none), "_law_value", "_law_value", defArgs s_u_law_value, defBody s_u_law_value, defScope s_u_law_value, [], []⟩) rfl
    g_u_law_value := He.glo_ok X G (cd.fact 28 rfl)
    d_u_law_deep := cd.def_ 29 (d := ⟨("_law_deep", none), "_law_deep", "_law_deep", defArgs s_u_law_deep, defBody s_u_law_deep, defScope s_u_law_deep, [], []⟩) rfl
    g_u_law_deep := He.glo_ok X G (cd.fact 29 rfl)
    d_u_law_parts := cd.def_ 30 (d := ⟨("_law_parts", none), "_law_parts", "_law_parts", defArgs s_u_law_parts, defBody s_u_law_parts, defScope s_u_law_parts, [], []⟩) rfl
    g_u_law_parts := He.glo_ok X G (cd.fact 30 rfl)
    d_u_law_call := cd.def_ 31 (d := ⟨("_law_call", none), "_law_call", "_law_call", defArgs s_u_law_call, defBody s_u_law_call, defScope s_u_law_call, [], []⟩) rfl
    g_u_law_call := He.glo_ok X G (cd.fact 31 rfl)
    d_u_law_told := cd.def_ 32 (d := ⟨("_law_told", none), "_law_told", "_law_told", defArgs s_u_law_told, defBody s_u_law_told, defScope s_u_law_told, [], []⟩) rfl
    g_u_law_told := He.glo_ok X G (cd.fact 32 rfl)
    d_u_law_wide := cd.def_ 33 (d := ⟨("_law_wide", none), "_law_wide", "_law_wide", defArgs s_u_law_wide, defBody s_u_law_wide, defScope s_u_law_wide, [], []⟩) rfl
    g_u_law_wide := He.glo_ok X G (cd.fact 33 rfl)
    d_u_law_near := cd.def_ 34 (d := ⟨("_law_near", none), "_law_near", "_law_near", defArgs s_u_law_near, defBody s_u_law_near, defScope s_u_law_near, [], []⟩) rfl
    g_u_law_near := He.glo_ok X G (cd.fact 34 rfl)
    d_u_law_is_number := cd.def_ 35 (d := ⟨("_law_is_number", none), "_law_is_number", "_law_is_number", defArgs s_u_law_is_number, defBody s_u_law_is_number, defScope s_u_law_is_number, [], []⟩) rfl
    g_u_law_is_number := He.glo_ok X G (cd.fact 35 rfl)
    d_u_law_fits := cd.def_ 36 (d := ⟨("_law_fits", none), "_law_fits", "_law_fits", defArgs s_u_law_fits, defBody s_u_law_fits, defScope s_u_law_fits, [], []⟩) rfl
    g_u_law_fits := He.glo_ok X G (cd.fact 36 rfl)
    d_u_law_right := cd.def_ 37 (d := ⟨("_law_right", none), "_law_right", "_law_right", defArgs s_u_law_right, defBody s_u_law_right, defScope s_u_law_right, [], []⟩) rfl
    g_u_law_right := He.glo_ok X G (cd.fact 37 rfl)
    d_law := cd.def_ 38 (d := ⟨("law", none), "law", "law", defArgs s_law, defBody s_law, defScope s_law, [], []⟩) rfl
    g_law := He.glo_ok X G (cd.fact 38 rfl)
    g_CurveError := He.glo_ok X G (cd.fact 39 rfl)
    g_OutOfRange := He.glo_ok X G (cd.fact 40 rfl)
    g_Malformed := He.glo_ok X G (cd.fact 41 rfl)
    x_Malformed := (He.exc_ok (x := "Malformed") (cd.fact 42 rfl)).1
    k_Malformed := (He.exc_ok (x := "Malformed") (cd.fact 42 rfl)).2.1
    b_Malformed := (He.exc_ok (x := "Malformed") (cd.fact 42 rfl)).2.2.1
    t_Malformed := (He.exc_ok (x := "Malformed") (cd.fact 42 rfl)).2.2.2
    x_OutOfRange := (He.exc_ok (x := "OutOfRange") (cd.fact 43 rfl)).1
    k_OutOfRange := (He.exc_ok (x := "OutOfRange") (cd.fact 43 rfl)).2.1
    b_OutOfRange := (He.exc_ok (x := "OutOfRange") (cd.fact 43 rfl)).2.2.1
    t_OutOfRange := (He.exc_ok (x := "OutOfRange") (cd.fact 43 rfl)).2.2.2
    n_abs := He.free_ok X G (cd.fact 44 rfl)
    n_all := He.free_ok X G (cd.fact 45 rfl)
    n_bool := He.free_ok X G (cd.fact 46 rfl)
    n_int := He.free_ok X G (cd.fact 47 rfl)
    n_isinstance := He.free_ok X G (cd.fact 48 rfl)
    n_len := He.free_ok X G (cd.fact 49 rfl)
    n_list := He.free_ok X G (cd.fact 50 rfl)
    n_max := He.free_ok X G (cd.fact 51 rfl)
    n_range := He.free_ok X G (cd.fact 52 rfl)
    n_sum := He.free_ok X G (cd.fact 53 rfl)
    n_tuple := He.free_ok X G (cd.fact 54 rfl)
    n_zip := He.free_ok X G (cd.fact 55 rfl)
    c_LONGEST_CONTENT := He.int_ok X G (cd.fact 56 rfl)
    c_LONGEST_NUMBER := He.int_ok X G (cd.fact 57 rfl)
    c_MOST_BITS := He.int_ok X G (cd.fact 58 rfl)
    c_MOST_LEVELS := He.int_ok X G (cd.fact 59 rfl)
    c_MOST_PARTS := He.int_ok X G (cd.fact 60 rfl)
    c_NUMBER_TAG := He.int_ok X G (cd.fact 61 rfl)
    c_SEQUENCE_TAG := He.int_ok X G (cd.fact 62 rfl)
    cls := cls_of (He.ba (c.more)).1 }
end Mi
set_option maxHeartbeats 1000000
namespace Mi
open PySem PySem.Spec L2
/-! ### what follows, in plain mathematics -/
theorem need_bind {α β : Type} {p : Prop} (m : Res α) (f : α → Res β) : (Res.need p m).bind f = Res.need p (m.bind f) := by
  by_cases h : p
  · rw [Res.need_pos h, Res.need_pos h]
  · rw [Res.need_neg h, Res.need_neg h]; rfl
theorem cond_dec {α : Type} {p : Prop} [Decidable p] (a b : α) : cond (decide p) a b = if p then a else b := by
  by_cases h : p <;> simp [h]
theorem ibits_le {i : Int} {n : Nat} (h : Builtin.Int.intBits i ≤ n) : i.natAbs < 2 ^ n := by
  unfold Builtin.Int.intBits at h
  split at h
  · rename_i h0
    have : i = 0 := by simpa using h0
    subst this
    exact Nat.two_pow_pos n
  · rename_i h0
    have hne : i.natAbs ≠ 0 := by
      intro z
      apply h0
      have : i = 0 := Int.natAbs_eq_zero.mp z
      simp [this]
    have h1 : i.natAbs.log2 < n := by omega
    exact (Nat.log2_lt hne).mp h1
theorem le_ibits {i : Int} {n : Nat} (h : i.natAbs < 2 ^ n) : Builtin.Int.intBits i ≤ n := by
  unfold Builtin.Int.intBits
  split
  · exact Nat.zero_le _
  · rename_i h0
    have hne : i.natAbs ≠ 0 := by
      intro z
      apply h0
      have : i = 0 := Int.natAbs_eq_zero.mp z
      simp [this]
    have := (Nat.log2_lt hne).mpr h
    omega
theorem cmulx {i j : Int} {a b : Nat} (ha : i.natAbs < 2 ^ a) (hb : j.natAbs < 2 ^ b) (h : a + b ≤ 134217728) : CMulX i j := mulx_ok ha hb h
theorem pow_add_lt {x y a b : Nat} (ha : x < 2 ^ a) (hb : y < 2 ^ b) : x * y < 2 ^ (a + b) := by
  rw [Nat.pow_add]; exact Nat.mul_lt_mul'' ha hb
theorem idx_nat {α : Type} {xs : List α} {j : Nat} {v : α} (h : xs[j]? = some v) : idx xs (j : Int) = .ok v := by
  unfold idx; rw [atI_nat h]
theorem idx_int {α : Type} {xs : List α} {i : Int} {v : α} (h0 : 0 ≤ i) (h : xs[i.toNat]? = some v) : idx xs i = .ok v := by
  have : i = (i.toNat : Int) := by omega
  rw [this]; exact idx_nat h
theorem compL_map {α β : Type} {t : α → Res Bool} {e : α → Res β} {g : α → β} {xs : List α} (ht : ∀ x ∈ xs, t x = .ok true) (he : ∀ x ∈ xs, e x = .ok (g x)) : compL t e xs = .ok (xs.map g) := by
  induction xs with
  | nil => rfl
  | cons x r ih =>
    show (t x).bind _ = _
    rw [ht x List.mem_cons_self]
    show (e x).bind _ = _
    rw [he x List.mem_cons_self]
    show (compL t e r).bind _ = _
    rw [ih (fun y hy => ht y (List.mem_cons_of_mem _ hy)) fun y hy => he y (List.mem_cons_of_mem _ hy)]
    rfl
mutual
/-- no truth values within -/
def D.nob : D → Bool
  | .bl _ => false
  | .ty _ => false
  | .obj _ _ _ => false
  | .ro _ => false
  | .dct _ _ => false
  | .tup xs => nobL xs
  | .lst xs => nobL xs
  | _ => true
def nobL : List D → Bool
  | [] => true
  | x :: xs => D.nob x && nobL xs
end
mutual
theorem pyEq_iff : ∀ (x y : D), x.nob = true → y.nob = true → (PyData.eqv x.py y.py = true ↔ x = y)
  | .non, y, _, h => by cases y <;> simp_all [D.py, PyData.eqv, D.nob]
  | .int i, y, _, h => by cases y <;> simp_all [D.py, PyData.eqv, D.nob]
  | .str s, y, _, h => by cases y <;> simp_all [D.py, PyData.eqv, D.nob]
  | .bl b, y, h, _ => by cases h
  | .ty b, y, h, _ => by cases h
  | .obj a b c, y, h, _ => by cases h
  | .ro a, y, h, _ => by cases h
  | .dct a b, y, h, _ => by cases h
  | .tup xs, y, h1, h => by
    cases y with
    | tup ys =>
      have := pyEqL_iff xs ys h1 h
      simp only [D.py, PyData.eqv, D.tup.injEq]; exact this
    | bl b => cases h
    | ty b => cases h
    | obj a b c => cases h
    | ro a => cases h
    | dct a b => cases h
    | _ => simp [D.py, PyData.eqv]
  | .lst xs, y, h1, h => by
    cases y with
    | lst ys =>
      have := pyEqL_iff xs ys h1 h
      simp only [D.py, PyData.eqv, D.lst.injEq]; exact this
    | bl b => cases h
    | ty b => cases h
    | obj a b c => cases h
    | ro a => cases h
    | dct a b => cases h
    | _ => simp [D.py, PyData.eqv]
theorem pyEqL_iff : ∀ (xs ys : List D), nobL xs = true → nobL ys = true → (PyData.eqvAll (pyL xs) (pyL ys) = true ↔ xs = ys)
  | [], ys, _, h => by cases ys <;> simp [pyL, PyData.eqvAll]
  | x :: xs, ys, h1, h => by
    cases ys with
    | nil => simp [pyL, PyData.eqvAll]
    | cons y ys =>
      obtain ⟨a1, a2⟩ := Bool.and_eq_true_iff.mp (show (D.nob x && nobL xs) = true from h1)
      obtain ⟨b1, b2⟩ := Bool.and_eq_true_iff.mp (show (D.nob y && nobL ys) = true from h)
      simp only [pyL, PyData.eqvAll, Bool.and_eq_true, pyEq_iff x y a1 b1, pyEqL_iff xs ys a2 b2, List.cons.injEq]
end
theorem pyEq_dec {x y : D} (hx : x.nob = true) (hy : y.nob = true) : pyEq x y = true ↔ x = y := pyEq_iff x y hx hy
theorem pyEq_self {x : D} (hx : x.nob = true) : pyEq x x = true := (pyEq_dec hx hx).mpr rfl
theorem pyEq_ne {x y : D} (hx : x.nob = true) (hy : y.nob = true) (h : x ≠ y) : pyEq x y = false := by
  cases e : pyEq x y with
  | false => rfl
  | true => exact absurd ((pyEq_dec hx hy).mp e) h
theorem nob_ints : ∀ xs : List Int, nobL (xs.map D.int) = true
  | [] => rfl
  | _ :: xs => nob_ints xs
theorem flat_ints : ∀ xs : List Int, flatL (xs.map D.int) = true
  | [] => rfl
  | _ :: xs => flat_ints xs
theorem lay_ints : ∀ xs : List Int, PyData.canLayAll0 (pyL (xs.map D.int)) = true
  | [] => rfl
  | _ :: xs => by show (true && _) = true; rw [lay_ints xs]; rfl
theorem dep_ints : ∀ xs : List Int, PyData.depthAll (pyL (xs.map D.int)) = 0
  | [] => rfl
  | _ :: xs => by show max 0 _ = 0; rw [dep_ints xs]; rfl
theorem okq_ints (xs : List Int) : (toD xs).okq = true := by
  show (flatL (xs.map D.int) && (PyData.canLayAll0 (pyL (xs.map D.int)) && decide (PyData.depthAll (pyL (xs.map D.int)) + 1 ≤ 64))) = true
  rw [flat_ints, lay_ints, dep_ints]; rfl
theorem toD_ints_inj {xs ys : List Int} (h : toD xs = toD ys) : xs = ys := by
  have h : xs.map D.int = ys.map D.int := D.lst.inj h
  exact List.map_inj_right (fun a b q => D.int.inj q) |>.mp h
theorem pyEq_ints (xs ys : List Int) : pyEq (toD xs) (toD ys) = decide (xs = ys) := by
  by_cases h : xs = ys
  · subst h; rw [pyEq_self (show (toD xs).nob = true from nob_ints xs)]; simp
  · rw [pyEq_ne (show (toD xs).nob = true from nob_ints xs) (show (toD ys).nob = true from nob_ints ys) fun e => h (toD_ints_inj e)]; simp [h]
theorem compL_get {α β : Type} (f : α → Res β) {xs : List α} {ys : List β} (h : xs.length = ys.length) (he : ∀ i (h1 : i < xs.length) (h2 : i < ys.length), f xs[i] = .ok ys[i]) : compL (fun _ => .ok true) f xs = .ok ys := by
  induction xs generalizing ys with
  | nil => cases ys with
    | nil => rfl
    | cons y r => simp at h
  | cons x xs ih =>
    cases ys with
    | nil => simp at h
    | cons y ys =>
      show (f x).bind _ = _
      rw [show f x = .ok y from he 0 (by simp) (by simp)]
      show (compL (fun _ => .ok true) f xs).bind _ = _
      rw [ih (by simpa using h) fun i h1 h2 => he (i + 1) (by simp; omega) (by simp; omega)]
      rfl
end Mi
set_option maxHeartbeats 1000000
namespace Mi
/-! ### primes -/
def IsP (n : Nat) : Prop := 2 ≤ n ∧ ∀ d, d ∣ n → d = 1 ∨ d = n
def prodL (l : List Nat) : Nat := l.foldr (· * ·) 1
/-- the power's residue, as the kernel works it out -/
def pwm (n : Nat) : Nat → Nat → Nat → Nat → Nat
  | 0, _, _, acc => acc
  | f + 1, b, e, acc => pwm n f (b * b % n) (e / 2) (if e % 2 = 1 then acc * b % n else acc)
/-- one prime q of n - 1, by numbers -/
def pkOk (n a q f : Nat) : Bool := decide (q ∣ n - 1) && decide (n - 1 < 2 ^ f) && decide (pwm n f a (n - 1) 1 % n = 1) && decide (Nat.gcd (pwm n f a ((n - 1) / q) 1 % n - 1) n = 1) && decide (0 < pwm n f a ((n - 1) / q) 1 % n)
def noDiv (n : Nat) : Nat → Nat → Bool
  | 0, _ => true
  | f + 1, d => !decide (n % d = 0) && noDiv n f (d + 1)
end Mi
set_option maxHeartbeats 1000000
namespace Mi
/-! ### residues -/
theorem em_mul {p x y u v : Int} (h : x % p = u % p) (h2 : y % p = v % p) : x * y % p = u * v % p := by rw [Int.mul_emod, h, h2, ← Int.mul_emod]
theorem em_dvd {p x y : Int} (h : x % p = y % p) : p ∣ x - y := Int.dvd_of_emod_eq_zero (Int.emod_eq_emod_iff_emod_sub_eq_zero.mp h)
theorem em_of_dvd {p x y : Int} (h : p ∣ x - y) : x % p = y % p := Int.emod_eq_emod_iff_emod_sub_eq_zero.mpr (Int.emod_eq_zero_of_dvd h)
/-! ### a polynomial's roots -/
def evp : List Int → Int → Int
  | [], _ => 0
  | c :: cs, x => c + x * evp cs x
def dvp : List Int → Int → List Int
  | [], _ => []
  | [_], _ => []
  | _ :: d :: cs, r => evp (d :: cs) r :: dvp (d :: cs) r
end Mi
set_option maxHeartbeats 1000000
namespace Mi
/-! ### residues as a ring -/
def zr (p : Nat) (x y : Int) : Prop := x % p = y % p
def Zp (p : Nat) : Type := Quot (zr p)
def zm (p : Nat) (x : Int) : Zp p := Quot.mk _ x
theorem zr_iff {p : Nat} {x y : Int} : zr p x y ↔ (p : Int) ∣ x - y := ⟨fun h => em_dvd h, fun h => em_of_dvd h⟩
section
variable {p : Nat}
def zadd : Zp p → Zp p → Zp p := Quot.lift (fun x => Quot.lift (fun y => zm p (x + y)) fun a b h => Quot.sound (by
  rw [zr_iff] at h ⊢; rw [show x + a - (x + b) = a - b by omega]; exact h)) fun a b h => by
  funext y
  induction y using Quot.ind
  refine Quot.sound ?_
  rw [zr_iff] at h ⊢
  rename_i y
  rw [show a + y - (b + y) = a - b by omega]; exact h
def zmul : Zp p → Zp p → Zp p := Quot.lift (fun x => Quot.lift (fun y => zm p (x * y)) fun a b h => Quot.sound (em_mul rfl h)) fun a b h => by
  funext y
  induction y using Quot.ind
  exact Quot.sound (em_mul h rfl)
def zneg : Zp p → Zp p := Quot.lift (fun x => zm p (-x)) fun a b h => Quot.sound (by
  rw [zr_iff] at h ⊢
  rw [show -a - -b = -(a - b) by omega]; exact Int.dvd_neg.mpr h)
instance : Add (Zp p) := ⟨zadd⟩
instance : Mul (Zp p) := ⟨zmul⟩
instance : Neg (Zp p) := ⟨zneg⟩
instance : Sub (Zp p) := ⟨fun x y => x + -y⟩
instance : NatCast (Zp p) := ⟨fun n => zm p (n : Int)⟩
instance : IntCast (Zp p) := ⟨fun n => zm p n⟩
instance (n : Nat) : OfNat (Zp p) n := ⟨zm p (n : Int)⟩
def zpow (x : Zp p) : Nat → Zp p
  | 0 => 1
  | n + 1 => zpow x n * x
instance : HPow (Zp p) Nat (Zp p) := ⟨zpow⟩
instance : SMul Nat (Zp p) := ⟨fun n x => (n : Zp p) * x⟩
instance : SMul Int (Zp p) := ⟨fun n x => (n : Zp p) * x⟩
instance : Lean.Grind.CommRing (Zp p) where
  add_zero := fun a => Quot.inductionOn a (fun x => congrArg (zm p) (Int.add_zero x))
  add_comm := fun a b => Quot.inductionOn a (fun x => Quot.inductionOn b (fun y => congrArg (zm p) (Int.add_comm x y)))
  add_assoc := fun a b c => Quot.inductionOn a (fun x => Quot.inductionOn b (fun y => Quot.inductionOn c (fun z => congrArg (zm p) (Int.add_assoc x y z))))
  mul_assoc := fun a b c => Quot.inductionOn a (fun x => Quot.inductionOn b (fun y => Quot.inductionOn c (fun z => congrArg (zm p) (Int.mul_assoc x y z))))
  mul_one := fun a => Quot.inductionOn a (fun x => congrArg (zm p) (Int.mul_one x))
  one_mul := fun a => Quot.inductionOn a (fun x => congrArg (zm p) (Int.one_mul x))
  left_distrib := fun a b c => Quot.inductionOn a (fun x => Quot.inductionOn b (fun y => Quot.inductionOn c (fun z => congrArg (zm p) (Int.mul_add x y z))))
  right_distrib := fun a b c => Quot.inductionOn a (fun x => Quot.inductionOn b (fun y => Quot.inductionOn c (fun z => congrArg (zm p) (Int.add_mul x y z))))
  zero_mul := fun a => Quot.inductionOn a (fun x => congrArg (zm p) (Int.zero_mul x))
  mul_zero := fun a => Quot.inductionOn a (fun x => congrArg (zm p) (Int.mul_zero x))
  pow_zero := fun a => rfl
  pow_succ := fun a n => rfl
  ofNat_succ := fun n => rfl
  ofNat_eq_natCast := fun n => rfl
  nsmul_eq_natCast_mul := fun n a => rfl
  neg_add_cancel := fun a => Quot.inductionOn a (fun x => congrArg (zm p) (Int.add_left_neg x))
  sub_eq_add_neg := fun a b => rfl
  neg_zsmul := fun i a => Quot.inductionOn a (fun x => congrArg (zm p) (Int.neg_mul i x))
  zsmul_natCast_eq_nsmul := fun n a => rfl
  intCast_ofNat := fun n => rfl
  intCast_neg := fun i => rfl
  mul_comm := fun a b => Quot.inductionOn a (fun x => Quot.inductionOn b (fun y => congrArg (zm p) (Int.mul_comm x y)))
end
end Mi
namespace Mi
end Mi
set_option maxHeartbeats 1000000
namespace Mi
open PySem PySem.Spec L2
/-! ### sizes, found by themselves -/
class Bd (x : Int) (n : outParam Nat) : Prop where
  lt : x.natAbs < 2 ^ n
class Pb (p : Nat) : Prop where
  pos : 0 < p
  lt : p < 2 ^ 256
theorem Bd.up {x : Int} {m n : Nat} (h : x.natAbs < 2 ^ m) (e : m ≤ n) : x.natAbs < 2 ^ n := Nat.lt_of_lt_of_le h (Nat.pow_le_pow_right (by decide) e)
instance bd_mul {x y : Int} {a b : Nat} [h1 : Bd x a] [h2 : Bd y b] : Bd (x * y) (a + b) := ⟨by rw [Int.natAbs_mul]; exact pow_add_lt h1.lt h2.lt⟩
theorem two_sum {u v a b : Nat} (h1 : u < 2 ^ a) (h2 : v < 2 ^ b) : u + v < 2 ^ (max a b + 1) := by
  have := Nat.lt_of_lt_of_le h1 (Nat.pow_le_pow_right (show 0 < 2 by decide) (Nat.le_max_left a b))
  have := Nat.lt_of_lt_of_le h2 (Nat.pow_le_pow_right (show 0 < 2 by decide) (Nat.le_max_right a b))
  rw [Nat.pow_succ]; omega
instance bd_add {x y : Int} {a b : Nat} [h1 : Bd x a] [h2 : Bd y b] : Bd (x + y) (max a b + 1) := ⟨Nat.lt_of_le_of_lt (Int.natAbs_add_le x y) (two_sum h1.lt h2.lt)⟩
instance bd_sub {x y : Int} {a b : Nat} [h1 : Bd x a] [h2 : Bd y b] : Bd (x - y) (max a b + 1) := ⟨Nat.lt_of_le_of_lt (Int.natAbs_sub_le x y) (two_sum h1.lt h2.lt)⟩
instance bd_neg {x : Int} {a : Nat} [h1 : Bd x a] : Bd (-x) a := ⟨by rw [Int.natAbs_neg]; exact h1.lt⟩
instance bd_pow {x : Int} {a k : Nat} [h1 : Bd x a] : Bd (x ^ k) (a * k + 1) := ⟨by
  rw [Int.natAbs_pow]
  have : x.natAbs ^ k ≤ (2 ^ a) ^ k := Nat.pow_le_pow_left (Nat.le_of_lt h1.lt) k
  rw [← Nat.pow_mul] at this
  have : 2 ^ (a * k) < 2 ^ (a * k + 1) := Nat.pow_lt_pow_right (by decide) (by omega)
  omega⟩
instance : Bd (0 : Int) 8 := ⟨by decide⟩
instance : Bd (1 : Int) 8 := ⟨by decide⟩
instance : Bd (2 : Int) 8 := ⟨by decide⟩
instance : Bd (3 : Int) 8 := ⟨by decide⟩
instance : Bd (4 : Int) 8 := ⟨by decide⟩
instance : Bd (5 : Int) 8 := ⟨by decide⟩
instance : Bd (6 : Int) 8 := ⟨by decide⟩
instance : Bd (7 : Int) 8 := ⟨by decide⟩
instance : Bd (8 : Int) 8 := ⟨by decide⟩
instance : Bd (9 : Int) 8 := ⟨by decide⟩
instance : Bd (12 : Int) 8 := ⟨by decide⟩
instance : Bd (13 : Int) 8 := ⟨by decide⟩
instance : Bd (16 : Int) 8 := ⟨by decide⟩
instance : Bd (27 : Int) 8 := ⟨by decide⟩
instance : Bd (2147483648 : Int) 70 := ⟨by decide +kernel⟩
instance : Bd (4294967296 : Int) 70 := ⟨by decide +kernel⟩
instance : Bd (2305843009213693952 : Int) 70 := ⟨by decide +kernel⟩
instance : Bd (9223372036854775808 : Int) 70 := ⟨by decide +kernel⟩
instance : Bd (18446744073709551616 : Int) 70 := ⟨by decide +kernel⟩
instance : Bd (6277101735386680763835789423207666416102355444464034512896 : Int) 200 := ⟨by decide +kernel⟩
instance bd_p {p : Nat} [h : Pb p] : Bd (p : Int) 256 := ⟨by rw [Int.natAbs_natCast]; exact h.lt⟩
instance bd_mod {p : Nat} {x : Int} [h : Pb p] : Bd (x % (p : Int)) 256 := ⟨by
  have := h.pos; have := h.lt
  have := Int.emod_nonneg x (show (p : Int) ≠ 0 by omega)
  have := Int.emod_lt_of_pos x (show (0 : Int) < (p : Int) by omega)
  omega⟩
end Mi
namespace Mi
open PySem PySem.Spec L2
/-! ### the law's own helpers -/
theorem cell_ok (ns : Ro Int) (k : Nat) : m_u_law_cell ns (k : Int) = .ok (ns.xs.getD k 0) := by
  unfold m_u_law_cell
  simp only [Res.bind_ok, cond_dec]
  by_cases h : (k : Int) < (ns.xs.length : Int)
  · rw [if_pos h]
    have h' : k < ns.xs.length := by omega
    rw [idx_nat (List.getElem?_eq_getElem h')]
    simp [Res.bind_ok, h']
  · rw [if_neg h]
    have h' : ¬ k < ns.xs.length := by omega
    simp [h']
theorem cell_ex (ns : Ro Int) {k : Int} (hk : 0 ≤ k) : ∃ c, m_u_law_cell ns k = .ok c := by
  obtain ⟨j, rfl⟩ := Int.eq_ofNat_of_zero_le hk
  exact ⟨_, cell_ok ns j⟩


/-! ### bytes -/
def dg : Nat → Int → List Int
  | 0, _ => []
  | s + 1, n => n % 256 :: dg s (n / 256)
abbrev fb (a d : Int) : Int := a * 256 + d
def Byt (ds : List Int) : Prop := ∀ d ∈ ds, 0 ≤ d ∧ d ≤ 255
theorem dg_len : ∀ (s : Nat) (n : Int), (dg s n).length = s
  | 0, _ => rfl
  | s + 1, n => by rw [dg, List.length_cons, dg_len]
theorem dg_byt : ∀ (s : Nat) (n : Int), Byt (dg s n)
  | 0, _ => fun d hd => by cases hd
  | s + 1, n => fun d hd => by
    rcases List.mem_cons.mp hd with rfl | hd
    · omega
    · exact dg_byt s _ d hd
theorem dg_get : ∀ (s : Nat) (n : Int) (i : Nat) (h : i < (dg s n).length), (dg s n)[i] = n / 256 ^ i % 256
  | 0, _, i, h => by cases h
  | s + 1, n, 0, h => by simp [dg]
  | s + 1, n, i + 1, h => by
    have h' : i < (dg s (n / 256)).length := by
      rw [dg, List.length_cons] at h; omega
    show (dg s (n / 256))[i] = _
    rw [dg_get s (n / 256) i h', Int.ediv_ediv_of_nonneg (by decide), Int.pow_succ, Int.mul_comm]
theorem p256 (k : Nat) : (2 : Int) ^ (8 * k) = 256 ^ k := by rw [Int.pow_mul]; rfl
theorem dg_val : ∀ (s : Nat) (n : Int), 0 ≤ n → n < 256 ^ s → (dg s n).foldr (fun d a => fb a d) 0 = n
  | 0, n, h0, h1 => by simp at h1; simp [dg]; omega
  | s + 1, n, h0, h1 => by
    rw [dg, List.foldr_cons, dg_val s (n / 256) (by omega) (by rw [Int.pow_succ] at h1; omega)]
    show n / 256 * 256 + n % 256 = n
    omega
theorem mask8 (x : Int) : Builtin.bitAnd x 255 = x % 256 := PySem.W.kbt_mask x 8
theorem big_loop (k : Int → Res Int) : ∀ (ds : List Int) (acc : Int) (j : Nat), 0 ≤ acc → acc.natAbs < 2 ^ (8 * j) → j + ds.length ≤ 5000 → Byt ds → m_from_big_l1 k ds acc = k (ds.foldl fb acc) := by
  intro ds
  induction ds with
  | nil => intro acc j _ _ _ _; rfl
  | cons d r ih =>
    intro acc j h0 h1 h2 h3
    rw [List.length_cons] at h2
    have hd := h3 d List.mem_cons_self
    have hc : CShl acc 8 := ⟨by decide, by have := le_ibits h1; omega⟩
    have e : Builtin.bitOr (acc * 2 ^ (8 : Int).toNat) d = fb acc d := or_low (k := 8) h0 hd.1 (by have : (2 : Int) ^ 8 = 256 := by decide
                                                                                                   omega)
    rw [m_from_big_l1]
    simp only [Res.bind_ok, need_bind, Res.need_pos hc, e]
    rw [ih (fb acc d) (j + 1) (by show 0 ≤ acc * 256 + d; omega) (by
      have e2 : (2 : Nat) ^ (8 * (j + 1)) = 2 ^ (8 * j) * 256 := by rw [Nat.mul_add, Nat.pow_add]
      rw [e2]
      show (acc * 256 + d).natAbs < _
      omega) (by omega) fun x hx => h3 x (List.mem_cons_of_mem _ hx)]
    rfl
theorem big_ok {ds : List Int} (h : Byt ds) (hl : ds.length ≤ 4900) : m_from_big ds = .ok (ds.foldl fb 0) := by
  unfold m_from_big
  simp only [Res.bind_ok]
  rw [big_loop _ ds 0 0 (Int.le_refl 0) (by decide) (by omega) h]
  rfl
/-! ### byte lists as values, forms and kinds -/
theorem wh_int (i : Int) : m_is_whole (D.int i) = .ok true := by
  have p1 : (toD (D.int i)).plain = true := rfl
  have h1 : isI "int" (toD (D.int i)) = true := rfl
  have h2 : isI "bool" (toD (D.int i)) = false := rfl
  unfold m_is_whole
  simp only [Res.need_pos p1, Res.bind_ok, h1, h2, cond_true, Bool.not_false]
theorem by_map : ∀ xs : List Int, (toD xs : D).asList = .ok (xs.map D.int) := fun xs => rfl
theorem bytes_ok {xs : List Int} (h : Byt xs) (hl : xs.length ≤ 16777216) : m_is_bytes (toD xs) = .ok true := by
  have p1 : (toD (toD xs : D)).plain = true := rfl
  have h1 : isI "list" (toD (toD xs : D)) = true := rfl
  have hn : (xs.map D.int).length ≤ 16777216 := by rw [List.length_map]; exact hl
  have e : ∀ x ∈ xs.map D.int, ((m_is_whole x).noexc).bind (fun b8 => cond b8 (x.asInt.bind fun (t7 : Int) => cond (decide ((0 : Int) ≤ t7)) (Res.ok (decide (t7 ≤ (255 : Int)))) (Res.ok false)) (Res.ok false)) = .ok true := by
    intro x hx
    obtain ⟨i, hi, rfl⟩ := List.mem_map.mp hx
    obtain ⟨a, b⟩ := h i hi
    have q : (D.int i).asInt = .ok i := rfl
    simp only [wh_int, Res.noexc, Res.bind_ok, cond_true, q, decide_eq_true a, decide_eq_true b]
  have c := compL_map (t := fun (_ : D) => Res.ok true) (e := fun x6 : D => ((m_is_whole x6).noexc).bind fun b8 => cond b8 (x6.asInt.bind fun (t7 : Int) => cond (decide ((0 : Int) ≤ t7)) (Res.ok (decide (t7 ≤ (255 : Int)))) (Res.ok false)) (Res.ok false)) (g := fun _ => true) (xs := xs.map D.int) (fun _ _ => rfl) e
  unfold m_is_bytes
  simp only [Res.need_pos p1, Res.bind_ok, h1, cond_true, by_map, Res.need_pos hn]
  rw [c]
  simp only [Res.bind_ok, List.all_map]
  congr 1
  exact List.all_eq_true.mpr fun _ _ => rfl
theorem bits_iff {n : Int} {s : Nat} (h0 : 0 ≤ n) : ((8 * (s : Int) < (Builtin.Int.intBits n : Int)) ↔ ¬ n < 256 ^ s) := by
  rw [← p256]
  constructor
  · intro h h1
    have e : n.natAbs < 2 ^ (8 * s) := by
      have : ((n.natAbs : Nat) : Int) < ((2 ^ (8 * s) : Nat) : Int) := by rw [PySem.W.kbt_cast]; omega
      omega
    have := le_ibits e
    omega
  · intro h
    refine Int.lt_of_not_ge fun h1 => h ?_
    have e := ibits_le (i := n) (n := 8 * s) (by omega)
    have : ((n.natAbs : Nat) : Int) < ((2 ^ (8 * s) : Nat) : Int) := by omega
    rw [PySem.W.kbt_cast] at this; omega
theorem little_ok {n : Int} {s : Nat} (hs : s ≤ 300) (h0 : 0 ≤ n) (h1 : n < 256 ^ s) : m_to_little n (s : Int) = .ok (dg s n) := by
  unfold m_to_little
  have hb : ¬ 8 * (s : Int) < (Builtin.Int.intBits n : Int) := fun h => bits_iff h0 |>.mp h h1
  have hr : okRange (s : Int) := ⟨by omega, by omega⟩
  have hl : (pyRange 0 (s : Int)).length = s := by rw [pyRange_len]; omega
  simp only [Res.bind_ok, need_bind]
  rw [decide_eq_false (show ¬ n < 0 by omega), decide_eq_false hb]
  simp only [cond_false, Res.bind_ok, Res.need_pos hr]
  rw [Res.need_pos (show (pyRange 0 (s : Int)).length ≤ 16777216 by omega)]
  refine compL_get _ (by rw [hl, dg_len]) fun i a b => ?_
  have e : (pyRange 0 (s : Int))[i] = (i : Int) := by simp [pyRange]
  rw [e, Res.need_pos (by omega), dg_get, mask8, show (8 * (i : Int)).toNat = 8 * i by omega, p256]
theorem tobig_ok {n : Int} {s : Nat} (hs : s ≤ 300) (h0 : 0 ≤ n) (h1 : n < 256 ^ s) : m_to_big n (s : Int) = .ok (dg s n).reverse := by
  unfold m_to_big
  rw [little_ok hs h0 h1]; rfl
theorem dg_rval {s : Nat} {n : Int} (h0 : 0 ≤ n) (h1 : n < 256 ^ s) : (dg s n).reverse.foldl fb 0 = n := by
  rw [List.foldl_reverse]; exact dg_val s n h0 h1
theorem byt_app {xs ys : List Int} (h : Byt xs) (k : Byt ys) : Byt (xs ++ ys) := fun d hd => by
  rcases List.mem_append.mp hd with hd | hd
  · exact h d hd
  · exact k d hd

theorem cut_part (xs : List Int) (j k : Nat) (h : j ≤ k) (h2 : k ≤ xs.length) : cutL xs (some (j : Int)) (some (k : Int)) = (xs.drop j).take (k - j) := by
  unfold cutL
  rw [HT.sIx_nat, HT.sIx_nat, Nat.min_eq_left (show j ≤ xs.length by omega), Nat.min_eq_left h2]
theorem cut_byt {xs : List Int} (h : Byt xs) (lo hi : Option Int) : Byt (cutL xs lo hi) := fun d hd => h d (List.mem_of_mem_drop (List.mem_of_mem_take hd))
theorem cut_len {xs : List Int} (lo hi : Option Int) : (cutL xs lo hi).length ≤ xs.length := by
  unfold cutL
  rw [List.length_take, List.length_drop]; omega
theorem fold_nn : ∀ (ds : List Int) (a : Int), 0 ≤ a → Byt ds → 0 ≤ ds.foldl fb a
  | [], a, h, _ => h
  | d :: r, a, h, hb => fold_nn r _ (by have := hb d List.mem_cons_self; show 0 ≤ a * 256 + d; omega) fun z hz => hb z (List.mem_cons_of_mem _ hz)
/-! ### the laws' little things over Edwards groups -/
theorem bits_le {p b : Nat} (h : 2 ^ b ≤ p) : b < Builtin.Int.intBits (p : Int) := Nat.lt_of_not_le fun z => by
  have := ibits_le z
  rw [Int.natAbs_natCast] at this; omega
theorem bits_dvd {n : Int} {m : Nat} (h : 0 ≤ n) (k : Builtin.Int.intBits n ≤ m) : n < 2 ^ m := by
  have := ibits_le k
  have : ((n.natAbs : Nat) : Int) < ((2 ^ m : Nat) : Int) := by omega
  rw [PySem.W.kbt_cast] at this; omega
/-! ### drawn bytes -/
theorem twice_ok (c : Int) {k : Int} : ∃ x, m_u_law_twice c k = .ok x ∧ 0 ≤ x := by
  have b : ∀ x : Int, 0 ≤ x → x < 2147483648 → CMulX x x := fun x h0 h1 => cmulx (a := 32) (b := 32) (by omega) (by omega) (by decide)
  unfold m_u_law_twice
  simp only [Res.bind_ok]
  have a0 := Int.emod_nonneg (c * 48271 + k * 69621 + 7) (show (2147483647 : Int) ≠ 0 by decide)
  have a1 := Int.emod_lt_of_pos (c * 48271 + k * 69621 + 7) (show (0 : Int) < 2147483647 by decide)
  generalize (c * 48271 + k * 69621 + 7) % 2147483647 = x at *
  rw [Res.need_pos (b x a0 (by omega))]
  simp only [Res.bind_ok]
  have a0 := Int.emod_nonneg (x * x + k * 40692 + 3) (show (2147483629 : Int) ≠ 0 by decide)
  have a1 := Int.emod_lt_of_pos (x * x + k * 40692 + 3) (show (0 : Int) < 2147483629 by decide)
  generalize (x * x + k * 40692 + 3) % 2147483629 = y at *
  rw [Res.need_pos (b y a0 (by omega))]
  simp only [Res.bind_ok]
  refine ⟨_, rfl, ?_⟩
  have a0 := Int.emod_nonneg (y * y + k * 30269 + 5) (show (2147483587 : Int) ≠ 0 by decide)
  omega
/-! ### k32: lengths and numbers with a tag -/
def lenF (s : Int) : List Int := if s < 128 then [s] else if s < 256 then [129, s] else [130, s / 256, s % 256]
theorem wl_ok {s : Int} (h0 : 0 ≤ s) (h1 : s ≤ 65535) : m_write_length s = .ok (lenF s) := by
  have tb : m_to_big s (2 : Int) = .ok (dg 2 s).reverse := tobig_ok (s := 2) (by decide) h0 (show s < 256 ^ 2 by show s < 65536; omega)
  unfold m_write_length lenF
  rw [decide_eq_false (show ¬ s < 0 by omega), cond_false, decide_eq_false (show ¬ 65535 < s by omega)]
  simp only [Res.bind_ok, cond_false]
  by_cases a : s < 128
  · rw [decide_eq_true a, if_pos a]; rfl
  · by_cases b : s < 256
    · rw [decide_eq_false a, decide_eq_true b, if_neg a, if_pos b]; rfl
    · rw [decide_eq_false a, decide_eq_false b, if_neg a, if_neg b, cond_false, cond_false, tb, Res.bind_ok]
      have e : (dg 2 s).reverse = [s / 256, s % 256] := by
        show [s / 256 % 256, s % 256] = _
        rw [show s / 256 % 256 = s / 256 by omega]
      rw [e, Res.need_pos (show ([130] : List Int).length + [s / 256, s % 256].length ≤ 16777216 by show 1 + 2 ≤ 16777216; decide)]; rfl
theorem ll_ok (s : Int) : m_u_law_length s = .ok (lenF s) := by
  unfold m_u_law_length lenF
  simp only [Res.bind_ok]
  by_cases a : s < 128
  · rw [decide_eq_true a, if_pos a]; rfl
  · by_cases b : s < 256
    · rw [decide_eq_false a, decide_eq_true b, if_neg a, if_pos b]; rfl
    · rw [decide_eq_false a, decide_eq_false b, if_neg a, if_neg b]; rfl
theorem nc_ok {n : Int} (h0 : 0 ≤ n) (h1 : Builtin.Int.intBits n ≤ 520) : m_u_number_content n = .ok (dg (Builtin.Int.intBits n / 8 + 1) n).reverse := by
  have e : (((Builtin.Int.intBits n : Nat) : Int) / 8 + 1) = ((Builtin.Int.intBits n / 8 + 1 : Nat) : Int) := by omega
  unfold m_u_number_content
  rw [e]
  refine tobig_ok (by omega) h0 ?_
  have b := ibits_le (i := n) (n := 8 * (Builtin.Int.intBits n / 8 + 1)) (by omega)
  rw [← p256]
  have : ((n.natAbs : Nat) : Int) < ((2 ^ (8 * (Builtin.Int.intBits n / 8 + 1)) : Nat) : Int) := by omega
  rw [PySem.W.kbt_cast] at this
  omega

theorem mid_cut (p q r : List Int) : cutL (p ++ q ++ r) (some (p.length : Int)) (some ((p.length + q.length : Nat) : Int)) = q := by
  rw [cut_part _ _ _ (by omega) (by simp), List.append_assoc, List.drop_left, show p.length + q.length - p.length = q.length by omega, List.take_left]
theorem rl_ok (p r : List Int) {s : Int} (h0 : 0 ≤ s) (h1 : s ≤ 65535) : m_read_length (p ++ lenF s ++ r) (p.length : Int) = .ok (T2.mk s ((p.length + (lenF s).length : Nat) : Int)) := by
  have fin : m_read_length_k2 (p ++ lenF s ++ r) (p.length : Int) (((p.length + (lenF s).length : Nat) : Int), s) = .ok (T2.mk s ((p.length + (lenF s).length : Nat) : Int)) := by
    unfold m_read_length_k2
    simp only [Res.bind_ok, mid_cut, wl_ok h0 h1, Res.need_pos (show (toD (lenF s)).okq = true ∧ (toD (lenF s)).okq = true from ⟨okq_ints _, okq_ints _⟩)]
    rw [pyEq_self (show (toD (lenF s)).nob = true from nob_ints _)]; rfl
  by_cases a : s < 128
  · have e : lenF s = [s] := by unfold lenF; rw [if_pos a]
    have c := mid_cut p [s] r
    rw [e] at fin ⊢
    have c : cutL (p ++ [s] ++ r) (some (p.length : Int)) (some ((p.length : Int) + 1)) = [s] := c
    have i0 : idx ([s] : List Int) (0 : Int) = .ok s := rfl
    have mm : decide (s ∈ ([129, 130] : List Int)) = false := decide_eq_false (by simp; omega)
    unfold m_read_length
    simp only [Res.bind_ok, c, i0]
    rw [show decide ((([s] : List Int).length : Int) = 0) = false from rfl, cond_false, mm, cond_false]
    exact fin
  · by_cases b : s < 256
    · have e : lenF s = [129, s] := by unfold lenF; rw [if_neg a, if_pos b]
      have c := mid_cut p [129] ([s] ++ r)
      have c2 := mid_cut (p ++ [129]) [s] r
      rw [e] at fin ⊢
      have d1 : p ++ [129] ++ ([s] ++ r) = p ++ [129, s] ++ r := by simp
      have d2 : p ++ [129] ++ [s] ++ r = p ++ [129, s] ++ r := by simp
      rw [d1] at c
      rw [d2] at c2
      have c : cutL (p ++ [129, s] ++ r) (some (p.length : Int)) (some ((p.length : Int) + 1)) = [129] := c
      have u1 : ((p ++ [129]).length : Int) = (p.length : Int) + 1 := by rw [List.length_append]; rfl
      have u2 : (((p ++ [129]).length + [s].length : Nat) : Int) = (p.length : Int) + 1 + (129 - 128) := by rw [List.length_append, List.length_singleton, List.length_singleton]; omega
      rw [u1, u2] at c2
      have i0 : idx ([129] : List Int) (0 : Int) = .ok 129 := rfl
      have bg : m_from_big [s] = .ok s := by
        have := big_ok (ds := [s]) (fun d hd => by rw [List.mem_singleton.mp hd]; omega) (show 1 ≤ 4900 by decide)
        rw [this]
        show Res.ok (0 * 256 + s) = _
        rw [Int.zero_mul, Int.zero_add]
      unfold m_read_length
      simp only [Res.bind_ok, c, i0]
      rw [show decide ((([129] : List Int).length : Int) = 0) = false from rfl, cond_false, show decide ((129 : Int) ∈ ([129, 130] : List Int)) = true from rfl, cond_true]
      simp only [c2, Res.bind_ok, bg]
      rw [show ((p.length : Int) + 1 + (129 - 128)) = ((p.length + ([129, s] : List Int).length : Nat) : Int) by show _ = ((p.length + 2 : Nat) : Int); omega]
      exact fin
    · have e : lenF s = [130, s / 256, s % 256] := by unfold lenF; rw [if_neg a, if_neg b]
      have c := mid_cut p [130] ([s / 256, s % 256] ++ r)
      have c2 := mid_cut (p ++ [130]) [s / 256, s % 256] r
      rw [e] at fin ⊢
      have d1 : p ++ [130] ++ ([s / 256, s % 256] ++ r) = p ++ [130, s / 256, s % 256] ++ r := by simp
      have d2 : p ++ [130] ++ [s / 256, s % 256] ++ r = p ++ [130, s / 256, s % 256] ++ r := by simp
      rw [d1] at c
      rw [d2] at c2
      have c : cutL (p ++ [130, s / 256, s % 256] ++ r) (some (p.length : Int)) (some ((p.length : Int) + 1)) = [130] := c
      have u1 : ((p ++ [130]).length : Int) = (p.length : Int) + 1 := by rw [List.length_append]; rfl
      have u2 : (((p ++ [130]).length + [s / 256, s % 256].length : Nat) : Int) = (p.length : Int) + 1 + (130 - 128) := by
        rw [List.length_append, List.length_singleton]
        show ((p.length + 1 + 2 : Nat) : Int) = _
        omega
      rw [u1, u2] at c2
      have i0 : idx ([130] : List Int) (0 : Int) = .ok 130 := rfl
      have bg : m_from_big [s / 256, s % 256] = .ok s := by
        have := big_ok (ds := [s / 256, s % 256]) (fun d hd => by
          rcases List.mem_cons.mp hd with rfl | hd
          · omega
          · rw [List.mem_singleton.mp hd]; omega) (show 2 ≤ 4900 by decide)
        rw [this]
        show Res.ok ((0 * 256 + s / 256) * 256 + s % 256) = _
        congr 1
        omega
      unfold m_read_length
      simp only [Res.bind_ok, c, i0]
      rw [show decide ((([130] : List Int).length : Int) = 0) = false from rfl, cond_false, show decide ((130 : Int) ∈ ([129, 130] : List Int)) = true from rfl, cond_true]
      simp only [c2, Res.bind_ok, bg]
      rw [show ((p.length : Int) + 1 + (130 - 128)) = ((p.length + ([130, s / 256, s % 256] : List Int).length : Nat) : Int) by show _ = ((p.length + 3 : Nat) : Int); omega]
      exact fin

/-! ### tagged parts, both ways -/
def conF (n : Int) : List Int := (dg (Builtin.Int.intBits n / 8 + 1) n).reverse
def encF (t : Int) (c : List Int) : List Int := t :: (lenF (c.length : Int) ++ c)
def numF (n : Int) : List Int := encF 2 (conF n)
def pairF (r s : Int) : List Int := encF 48 (numF r ++ numF s)
def encP (p : T2 Int (List Int)) : List Int := encF p.a p.b
theorem lenF_len (s : Int) : 1 ≤ (lenF s).length ∧ (lenF s).length ≤ 3 := by
  unfold lenF
  split
  · rw [List.length_singleton]; omega
  · split
    · show 1 ≤ 2 ∧ 2 ≤ 3; omega
    · show 1 ≤ 3 ∧ 3 ≤ 3; omega
theorem conF_len (n : Int) : (conF n).length = Builtin.Int.intBits n / 8 + 1 := by unfold conF; rw [List.length_reverse, dg_len]
theorem conF_byt (n : Int) : Byt (conF n) := fun d hd => dg_byt _ _ d (List.mem_reverse.mp hd)
theorem encF_len (t : Int) (c : List Int) : c.length + 2 ≤ (encF t c).length ∧ (encF t c).length ≤ c.length + 4 := by
  have := lenF_len (c.length : Int)
  unfold encF
  rw [List.length_cons, List.length_append]
  omega
theorem bits_lt2 {n : Int} {m : Nat} (h0 : 0 ≤ n) (h : Builtin.Int.intBits n ≤ m) : n < 2 ^ m := bits_dvd h0 h
theorem conF_val {n : Int} (h0 : 0 ≤ n) : (conF n).foldl fb 0 = n := by
  unfold conF
  refine dg_rval h0 ?_
  have := bits_lt2 h0 (Nat.le_refl (Builtin.Int.intBits n))
  have q : (2 : Int) ^ Builtin.Int.intBits n ≤ 256 ^ (Builtin.Int.intBits n / 8 + 1) := by
    rw [show (256 : Int) = 2 ^ 8 from rfl, ← Int.pow_mul]
    have := Nat.pow_le_pow_right (n := 2) (by decide) (show Builtin.Int.intBits n ≤ 8 * (Builtin.Int.intBits n / 8 + 1) by omega)
    rw [← PySem.W.kbt_cast, ← PySem.W.kbt_cast]
    omega
  omega
theorem part_ok (t : Int) {c : List Int} (h : c.length ≤ 65535) : m_u_part t c = .ok (encF t c) := by
  have l := lenF_len (c.length : Int)
  unfold m_u_part encF
  rw [wl_ok (by omega) (by omega)]
  simp only [Res.bind_ok]
  rw [Res.need_pos (by rw [List.length_singleton]; omega), Res.bind_ok, Res.need_pos (by rw [List.length_append, List.length_singleton]; omega)]
  rfl
theorem wnum_ok {n : Int} (h0 : 0 ≤ n) (h : Builtin.Int.intBits n ≤ 520) : m_write_number n = .ok (numF n) := by
  have l := conF_len n
  unfold m_write_number
  rw [decide_eq_false (show ¬ n < 0 by omega), cond_false, Res.bind_ok, decide_eq_false (by omega), cond_false, nc_ok h0 h]
  exact part_ok 2 (by show (conF n).length ≤ _; omega)
theorem numF_len {n : Int} (h : Builtin.Int.intBits n ≤ 520) : (numF n).length ≤ 70 := by
  have := encF_len 2 (conF n)
  have := conF_len n
  unfold numF; omega
theorem pl_int (x : Int) : (toD (D.int x)).plain = true := rfl
theorem tu_int (x : Int) : isI "tuple" (toD (D.int x)) = false := rfl
theorem lv_int (k : Nat) (x : Int) : m_u_levels (k + 1) (D.int x) = .ok 0 := by
  show m_u_levels_b (m_u_levels k) (D.int x) = _
  unfold m_u_levels_b
  rw [Res.need_pos (pl_int x), tu_int]; rfl
theorem pc_int (k : Nat) (x : Int) : m_u_part_count (k + 1) (D.int x) = .ok 1 := by
  show m_u_part_count_b (m_u_part_count k) (D.int x) = _
  unfold m_u_part_count_b
  rw [Res.need_pos (pl_int x), tu_int]; rfl
theorem tp_int (k : Nat) (x : Int) : m_u_tree_part (k + 1) (D.int x) = m_write_number x := by
  show m_u_tree_part_b (m_u_tree_part k) (D.int x) = _
  unfold m_u_tree_part_b
  rw [Res.need_pos (pl_int x), tu_int]; rfl
theorem cut_sat (xs : List Int) (j k : Nat) (h : j ≤ xs.length) : cutL xs (some (j : Int)) (some (k : Int)) = (xs.drop j).take (k - j) := by
  unfold cutL
  rw [HT.sIx_nat, HT.sIx_nat, Nat.min_eq_left h]
  by_cases c : k ≤ xs.length
  · rw [Nat.min_eq_left c]
  · rw [Nat.min_eq_right (by omega), List.take_of_length_le (by rw [List.length_drop]; omega), List.take_of_length_le (by rw [List.length_drop]; omega)]
theorem rlen_k2 {data : List Int} {j k : Nat} {s : Int} (s0 : 0 ≤ s) (s1 : s ≤ 65535) : m_read_length_k2 data (j : Int) ((k : Int), s) = if cutL data (some (j : Int)) (some (k : Int)) = lenF s then .ok (T2.mk s (k : Int)) else .exc "Malformed" := by
  unfold m_read_length_k2
  simp only [Res.bind_ok, wl_ok s0 s1, Res.need_pos (And.intro (okq_ints _) (okq_ints _)), pyEq_ints]
  by_cases c : cutL data (some (j : Int)) (some (k : Int)) = lenF s
  · rw [decide_eq_true c, if_pos c]; rfl
  · rw [decide_eq_false c, if_neg c]; rfl
theorem rlen_inv {data : List Int} (hb : Byt data) {j : Nat} (hj : j ≤ data.length) : m_read_length data (j : Int) = .exc "Malformed" ∨ ∃ s k : Nat, m_read_length data (j : Int) = .ok (T2.mk (s : Int) (k : Int)) ∧ s ≤ 65535 ∧ j < k ∧ (data.drop j).take (k - j) = lenF (s : Int) := by
  have fin : ∀ (s k : Nat), s ≤ 65535 → j < k → m_read_length_k2 data (j : Int) ((k : Int), (s : Int)) = .exc "Malformed" ∨ ∃ s' k' : Nat, m_read_length_k2 data (j : Int) ((k : Int), (s : Int)) = .ok (T2.mk (s' : Int) (k' : Int)) ∧ s' ≤ 65535 ∧ j < k' ∧ (data.drop j).take (k' - j) = lenF (s' : Int) := by
    intro s k hs hk
    rw [rlen_k2 (by omega) (by omega)]
    by_cases c : cutL data (some (j : Int)) (some (k : Int)) = lenF (s : Int)
    · rw [if_pos c]
      rw [cut_sat _ _ _ hj] at c
      exact .inr ⟨s, k, rfl, hs, hk, c⟩
    · rw [if_neg c]; exact .inl rfl
  have c1 := cut_sat data j (j + 1) hj
  have b1 := cut_byt hb (some (j : Int)) (some ((j : Int) + 1))
  rw [show ((j + 1 : Nat) : Int) = (j : Int) + 1 by omega, show j + 1 - j = 1 by omega] at c1
  unfold m_read_length
  simp only [Res.bind_ok]
  have l1 : (cutL data (some (j : Int)) (some ((j : Int) + 1))).length ≤ 1 := by rw [c1, List.length_take]; omega
  generalize cutL data (some (j : Int)) (some ((j : Int) + 1)) = first at *
  cases first with
  | nil => exact .inl rfl
  | cons f r =>
    have r0 : r = [] := List.length_eq_zero_iff.mp (by rw [List.length_cons] at l1; omega)
    subst r0
    have fB := b1 f (List.mem_singleton.mpr rfl)
    obtain ⟨s, rfl⟩ := Int.eq_ofNat_of_zero_le fB.1
    rw [show decide ((([((s : Nat) : Int)] : List Int).length : Int) = 0) = false from rfl, cond_false, show idx [((s : Nat) : Int)] (0 : Int) = .ok (s : Int) from rfl, Res.bind_ok]
    by_cases m : ((s : Nat) : Int) ∈ ([129, 130] : List Int)
    · rw [decide_eq_true m, cond_true]
      have m2 : s = 129 ∨ s = 130 := by
        rcases List.mem_cons.mp m with e | m
        · exact .inl (by omega)
        · have := List.mem_singleton.mp m; exact .inr (by omega)
      have e : (j : Int) + 1 + ((s : Int) - 128) = ((j + 1 + (s - 128) : Nat) : Int) := by omega
      rw [e]
      have b2 := cut_byt hb (some ((j : Int) + 1)) (some ((j + 1 + (s - 128) : Nat) : Int))
      have l2 : (cutL data (some ((j : Int) + 1)) (some ((j + 1 + (s - 128) : Nat) : Int))).length ≤ 2 := by
        unfold cutL
        rw [show (j : Int) + 1 = ((j + 1 : Nat) : Int) by omega, HT.sIx_nat, HT.sIx_nat, List.length_take]
        omega
      generalize cutL data (some ((j : Int) + 1)) (some ((j + 1 + (s - 128) : Nat) : Int)) = ds at *
      rw [big_ok b2 (by omega), Res.bind_ok]
      have v0 := fold_nn ds 0 (by decide) b2
      have v1 : ds.foldl fb 0 ≤ 65535 := by
        match ds, l2, b2 with
        | [], _, _ => decide
        | [a], _, b => have := b a List.mem_cons_self; show 0 * 256 + a ≤ _; omega
        | [a, c], _, b => have := b a List.mem_cons_self; have := b c (List.mem_cons_of_mem _ List.mem_cons_self); show (0 * 256 + a) * 256 + c ≤ _; omega
        | _ :: _ :: _ :: _, h, _ => rw [List.length_cons, List.length_cons, List.length_cons] at h; omega
      obtain ⟨z, hz⟩ := Int.eq_ofNat_of_zero_le v0
      rw [hz]
      exact fin z _ (by omega) (by omega)
    · rw [decide_eq_false m, cond_false]
      exact fin s (j + 1) (by omega) (by omega)
theorem w1_step (data : List Int) (k : List (T2 Int (List Int)) × Int → Res (List (T2 Int (List Int)))) (f : Nat) (parts : List (T2 Int (List Int))) (at_ : Int) (h : at_ < (data.length : Int)) (hp : parts.length < 16777216) : m_u_split_parts_w1 data k (f + 1) (parts, at_) = (m_read_length data (at_ + 1)).bind fun u => if (data.length : Int) < u.b + u.a then .exc "Malformed" else ((idx data at_).bind fun t => m_u_split_parts_w1 data k f (parts ++ [T2.mk t (cutL data (some u.b) (some (u.b + u.a)))], u.b + u.a)) := by
  rw [m_u_split_parts_w1]
  rw [Res.bind_ok, decide_eq_true h, cond_true]
  congr 1
  funext u
  simp only [Res.bind_ok]
  by_cases c : (data.length : Int) < u.b + u.a
  · rw [decide_eq_true c, if_pos c]; rfl
  · rw [decide_eq_false c, if_neg c, cond_false]
    cases idx data at_ with
    | ok t => simp only [Res.bind_ok, Res.need_pos hp]
    | exc c => rfl
    | stuck => rfl
theorem w1_end (data : List Int) (f : Nat) (parts : List (T2 Int (List Int))) (at_ : Int) (h : ¬ at_ < (data.length : Int)) : m_u_split_parts_w1 data m_u_split_parts_k3 (f + 1) (parts, at_) = .ok parts := by
  rw [m_u_split_parts_w1, Res.bind_ok, decide_eq_false h, cond_false]
  rfl
theorem sp_inv {data : List Int} (hb : Byt data) (hl : data.length ≤ 60000) : ∀ (f : Nat) (parts : List (T2 Int (List Int))) (j : Nat), j ≤ data.length → data.length - j < f → parts.length ≤ j → m_u_split_parts_w1 data m_u_split_parts_k3 f (parts, (j : Int)) = .exc "Malformed" ∨ ∃ rest, m_u_split_parts_w1 data m_u_split_parts_k3 f (parts, (j : Int)) = .ok (parts ++ rest) ∧ data.drop j = rest.flatMap encP ∧ ∀ p ∈ rest, Byt p.b ∧ p.b.length ≤ data.length
  | 0, _, _, _, h, _ => by omega
  | f + 1, parts, j, h1, h2, h3 => by
    by_cases c : j < data.length
    · rw [w1_step _ _ _ _ _ (by omega) (by omega), show (j : Int) + 1 = ((j + 1 : Nat) : Int) by omega]
      rcases rlen_inv hb (j := j + 1) (by omega) with e | ⟨s, k, e, s1, jk, t⟩
      · rw [e]; exact .inl rfl
      · rw [e, Res.bind_ok]
        dsimp only
        by_cases q : (data.length : Int) < (k : Int) + (s : Int)
        · rw [if_pos q]; exact .inl rfl
        · rw [if_neg q]
          have ix : idx data (j : Int) = .ok (data[j]'c) := idx_nat (List.getElem?_eq_getElem c)
          rw [ix, Res.bind_ok, show (k : Int) + (s : Int) = ((k + s : Nat) : Int) by omega]
          have cc := cut_sat data k (k + s) (by omega)
          rw [show k + s - k = s by omega] at cc
          have cb := cut_byt hb (some (k : Int)) (some ((k + s : Nat) : Int))
          have cl := cut_len (xs := data) (some (k : Int)) (some ((k + s : Nat) : Int))
          rcases sp_inv hb hl f (parts ++ [T2.mk data[j] (cutL data (some (k : Int)) (some ((k + s : Nat) : Int)))]) (k + s) (by omega) (by omega) (by rw [List.length_append, List.length_singleton]; omega) with e2 | ⟨rest, e2, d2, m2⟩
          · exact .inl e2
          · refine .inr ⟨T2.mk data[j] (cutL data (some (k : Int)) (some ((k + s : Nat) : Int))) :: rest, ?_, ?_, ?_⟩
            · rw [e2, List.append_assoc]; rfl
            · rw [List.flatMap_cons, ← d2, List.drop_eq_getElem_cons c]
              have l : (cutL data (some (k : Int)) (some ((k + s : Nat) : Int))).length = s := by
                rw [cc, List.length_take, List.length_drop]; omega
              show _ = data[j] :: (lenF ((cutL data (some (k : Int)) (some ((k + s : Nat) : Int))).length : Int) ++ cutL data (some (k : Int)) (some ((k + s : Nat) : Int))) ++ data.drop (k + s)
              rw [l, ← t, cc, List.cons_append, List.append_assoc]
              congr 1
              have a1 := List.take_append_drop (k - (j + 1)) (data.drop (j + 1))
              rw [List.drop_drop, show j + 1 + (k - (j + 1)) = k by omega] at a1
              have a2 := List.take_append_drop s (data.drop k)
              rw [List.drop_drop] at a2
              rw [a2, a1]
            · intro p hp
              rcases List.mem_cons.mp hp with rfl | hp
              · exact ⟨cb, cl⟩
              · exact m2 p hp
    · have : j = data.length := by omega
      rw [w1_end _ _ _ _ (by omega)]
      exact .inr ⟨[], by rw [List.append_nil], by rw [this, List.drop_length]; rfl, fun p hp => nomatch hp⟩
theorem split_inv {data : List Int} (hb : Byt data) (hl : data.length ≤ 60000) : m_u_split_parts data = .exc "Malformed" ∨ ∃ ps, m_u_split_parts data = .ok ps ∧ data = ps.flatMap encP ∧ ∀ p ∈ ps, Byt p.b ∧ p.b.length ≤ data.length := by
  have q := sp_inv hb hl (data.length + 1) [] 0 (Nat.zero_le _) (by omega) (Nat.le_refl _)
  exact q
theorem sp_fwd : ∀ (ps : List (T2 Int (List Int))) (pre : List Int) (parts : List (T2 Int (List Int))) (f : Nat), ps.length < f → parts.length + ps.length ≤ 1000 → (∀ p ∈ ps, p.b.length ≤ 65535) → m_u_split_parts_w1 (pre ++ ps.flatMap encP) m_u_split_parts_k3 f (parts, (pre.length : Int)) = .ok (parts ++ ps)
  | [], pre, parts, f, h, _, _ => by
    obtain ⟨f, rfl⟩ : ∃ k, f = k + 1 := ⟨f - 1, by simp at h; omega⟩
    rw [w1_end _ _ _ _ (by simp), List.append_nil]
  | p :: ps, pre, parts, f, h, hp, hc => by
    obtain ⟨f, rfl⟩ : ∃ k, f = k + 1 := ⟨f - 1, by simp at h; omega⟩
    rw [List.length_cons] at h hp
    have pc := hc p List.mem_cons_self
    have ll := lenF_len (p.b.length : Int)
    have dl : (pre ++ (p :: ps).flatMap encP) = (pre ++ [p.a]) ++ lenF (p.b.length : Int) ++ (p.b ++ ps.flatMap encP) := by
      rw [List.flatMap_cons]
      show pre ++ (p.a :: (lenF (p.b.length : Int) ++ p.b) ++ _) = _
      simp
    have dl2 : (pre ++ (p :: ps).flatMap encP) = (pre ++ [p.a] ++ lenF (p.b.length : Int)) ++ p.b ++ ps.flatMap encP := by rw [dl]; simp
    have dl3 : (pre ++ (p :: ps).flatMap encP) = (pre ++ encP p) ++ ps.flatMap encP := by rw [List.flatMap_cons, List.append_assoc]
    have dlen : pre.length + 1 + (lenF (p.b.length : Int)).length + p.b.length ≤ (pre ++ (p :: ps).flatMap encP).length := by
      rw [dl2]; simp only [List.length_append, List.length_singleton]; omega
    have r := rl_ok (pre ++ [p.a]) (p.b ++ ps.flatMap encP) (s := (p.b.length : Int)) (by omega) (by omega)
    rw [← dl, List.length_append, List.length_singleton] at r
    have mc := mid_cut (pre ++ [p.a] ++ lenF (p.b.length : Int)) p.b (ps.flatMap encP)
    rw [← dl2] at mc
    have e0 : (pre ++ [p.a] ++ lenF (p.b.length : Int)).length = pre.length + 1 + (lenF (p.b.length : Int)).length := by simp only [List.length_append, List.length_singleton]
    rw [e0] at mc
    have ix : idx (pre ++ (p :: ps).flatMap encP) (pre.length : Int) = .ok p.a := idx_nat (by rw [dl]; simp)
    rw [w1_step _ _ _ _ _ (by omega) (by omega), show (pre.length : Int) + 1 = ((pre.length + 1 : Nat) : Int) by omega, r, Res.bind_ok]
    dsimp only
    rw [if_neg (by omega), ix, Res.bind_ok, show ((pre.length + 1 + (lenF (p.b.length : Int)).length : Nat) : Int) + (p.b.length : Int) = ((pre.length + 1 + (lenF (p.b.length : Int)).length + p.b.length : Nat) : Int) by omega, mc]
    have ih := sp_fwd ps (pre ++ encP p) (parts ++ [p]) f (by omega) (by rw [List.length_append, List.length_singleton]; omega) fun x hx => hc x (List.mem_cons_of_mem _ hx)
    have e1 : (pre ++ encP p).length = pre.length + 1 + (lenF (p.b.length : Int)).length + p.b.length := by
      rw [List.length_append]
      show pre.length + (p.a :: (lenF (p.b.length : Int) ++ p.b)).length = _
      rw [List.length_cons, List.length_append]; omega
    rw [e1, ← dl3, List.append_assoc] at ih
    exact ih
theorem split_fwd (ps : List (T2 Int (List Int))) (h : ps.length ≤ 100) (hc : ∀ p ∈ ps, p.b.length ≤ 65535) : m_u_split_parts (ps.flatMap encP) = .ok ps := by
  have l : ∀ qs : List (T2 Int (List Int)), qs.length ≤ (qs.flatMap encP).length := by
    intro qs
    induction qs with
    | nil => exact Nat.le_refl _
    | cons q r ih =>
      rw [List.flatMap_cons, List.length_append, List.length_cons]
      have : 1 ≤ (encP q).length := by show 1 ≤ (encF q.a q.b).length; have := encF_len q.a q.b; omega
      omega
  have := l ps
  exact sp_fwd ps [] [] ((ps.flatMap encP).length + 1) (by omega) (by rw [List.length_nil]; omega) hc

/-! ### numbers and pairs read -/
theorem num_inv {c : List Int} (hb : Byt c) (hl : c.length ≤ 60000) : m_u_number c = .exc "Malformed" ∨ ∃ v, m_u_number c = .ok v ∧ 0 ≤ v ∧ Builtin.Int.intBits v ≤ 520 ∧ conF v = c := by
  unfold m_u_number
  rw [Res.bind_ok]
  by_cases l : (66 : Int) < (c.length : Int)
  · rw [decide_eq_true l]; exact .inl rfl
  · rw [decide_eq_false l, cond_false, big_ok hb (by omega), Res.bind_ok]
    have v0 := fold_nn c 0 (by decide) hb
    generalize c.foldl fb 0 = v at *
    by_cases b : (520 : Int) < ((Builtin.Int.intBits v : Nat) : Int)
    · rw [decide_eq_true b]; exact .inl rfl
    · rw [decide_eq_false b, cond_false, nc_ok v0 (by omega), Res.bind_ok, Res.need_pos (And.intro (okq_ints _) (okq_ints _)), Res.bind_ok, pyEq_ints]
      show (cond (!decide (conF v = c)) _ _ = _) ∨ ∃ w, cond (!decide (conF v = c)) _ _ = _ ∧ _
      by_cases e : conF v = c
      · rw [decide_eq_true e]; exact .inr ⟨v, rfl, v0, by omega, e⟩
      · rw [decide_eq_false e]; exact .inl rfl
theorem num_fwd {v : Int} (h0 : 0 ≤ v) (h : Builtin.Int.intBits v ≤ 520) : m_u_number (conF v) = .ok v := by
  have l := conF_len v
  unfold m_u_number
  rw [Res.bind_ok, decide_eq_false (by omega), cond_false, big_ok (conF_byt v) (by omega), conF_val h0, Res.bind_ok, decide_eq_false (by omega), cond_false, nc_ok h0 h, Res.bind_ok, Res.need_pos (And.intro (okq_ints _) (okq_ints _)), Res.bind_ok, pyEq_ints]
  rw [decide_eq_true (show (dg (Builtin.Int.intBits v / 8 + 1) v).reverse = conF v from rfl)]; rfl
theorem tags_ok (ps : List (T2 Int (List Int))) (h : ps.length ≤ 60000) : Res.need (ps.length ≤ 16777216) (compL (fun (_ : (T2 Int (List Int))) => Res.ok true) (fun (x : (T2 Int (List Int))) => (Res.ok x.a)) ps) = .ok (ps.map fun x => x.a) := by
  rw [Res.need_pos (by omega)]
  exact compL_map (g := fun (x : T2 Int (List Int)) => x.a) (fun _ _ => rfl) fun _ _ => rfl
theorem map_two {ps : List (T2 Int (List Int))} (h : (ps.map fun x => x.a) = [2, 2]) : ∃ p q, ps = [p, q] ∧ p.a = 2 ∧ q.a = 2 := by
  cases ps with
  | nil => cases h
  | cons p r =>
    cases r with
    | nil => injection h with _ h; cases h
    | cons q t =>
      cases t with
      | nil =>
        injection h with h1 h
        injection h with h2 h
        exact ⟨p, q, rfl, h1, h2⟩
      | cons _ _ =>
        injection h with h1 h
        injection h with h2 h
        cases h
/-- what is read as a pair is its form -/
theorem rp_inv {data : List Int} (hb : Byt data) (hl : data.length ≤ 50000) : m_read_pair data = .exc "Malformed" ∨ ∃ r s, m_read_pair data = .ok (T2.mk r s) ∧ 0 ≤ r ∧ 0 ≤ s ∧ Builtin.Int.intBits r ≤ 520 ∧ Builtin.Int.intBits s ≤ 520 ∧ data = pairF r s := by
  have by_ := bytes_ok hb (by omega)
  have one : m_u_only_part (toD data) = .exc "Malformed" ∨ ∃ t c, m_u_only_part (toD data) = .ok (T2.mk t c) ∧ data = encF t c ∧ Byt c ∧ c.length ≤ data.length := by
    unfold m_u_only_part
    simp only [by_, Res.bind_ok, Bool.not_true, cond_false, asInts_toD]
    rcases split_inv hb (by omega) with e | ⟨ps, e, d, m⟩
    · rw [e]; exact .inl rfl
    · rw [e, Res.bind_ok]
      match ps, d, m with
      | [], _, _ => exact .inl rfl
      | [p], d, m =>
        refine .inr ⟨p.a, p.b, rfl, ?_, (m p List.mem_cons_self).1, (m p List.mem_cons_self).2⟩
        rw [d, List.flatMap_cons]
        show encP p ++ [] = _
        rw [List.append_nil]; rfl
      | p :: q :: r, _, _ =>
        rw [decide_eq_false (by rw [List.length_cons, List.length_cons]; omega)]; exact .inl rfl
  unfold m_read_pair
  rcases one with e | ⟨t, c, e, d, cb, cl⟩
  · rw [e]; exact .inl rfl
  · rw [e, Res.bind_ok]
    dsimp only
    rcases split_inv cb (by omega) with e2 | ⟨ps, e2, d2, m2⟩
    · rw [e2]; exact .inl rfl
    · rw [e2, Res.bind_ok, Res.bind_ok]
      have pl : ps.length ≤ 60000 := by
        have : ps.length ≤ c.length := by
          rw [d2]
          clear d2 m2 e2
          induction ps with
          | nil => exact Nat.le_refl _
          | cons q r ih =>
            rw [List.flatMap_cons, List.length_append, List.length_cons]
            have : 1 ≤ (encP q).length := by show 1 ≤ (encF q.a q.b).length; have := encF_len q.a q.b; omega
            omega
        omega
      rw [tags_ok ps pl, Res.bind_ok, Res.need_pos (And.intro (okq_ints _) (okq_ints _)), pyEq_ints]
      by_cases t48 : t = 48
      · rw [decide_eq_true t48, Bool.not_true, cond_false, Res.bind_ok]
        by_cases tg : (ps.map fun x => x.a) = [2, 2]
        · rw [decide_eq_true tg, Bool.not_true, cond_false]
          obtain ⟨p, q, rfl, pa, qa⟩ := map_two tg
          · skip
            obtain ⟨pb, pl⟩ := m2 p List.mem_cons_self
            obtain ⟨qb, ql⟩ := m2 q (List.mem_cons_of_mem _ List.mem_cons_self)
            rw [show idx [p, q] (0 : Int) = .ok p from rfl, show idx [p, q] (1 : Int) = .ok q from rfl]
            simp only [Res.bind_ok]
            rcases num_inv pb (by omega) with e3 | ⟨r, e3, r0, r1, r2⟩
            · rw [e3]; exact .inl rfl
            · rw [e3]
              rcases num_inv qb (by omega) with e4 | ⟨s, e4, s0, s1, s2⟩
              · rw [e4]; exact .inl rfl
              · rw [e4]
                refine .inr ⟨r, s, rfl, r0, s0, r1, s1, ?_⟩
                have d2 : c = encP p ++ (encP q ++ []) := d2
                rw [d, t48]
                show _ = encF 48 (encF 2 (conF r) ++ encF 2 (conF s))
                rw [r2, s2, d2, List.append_nil]
                show encF 48 (encF p.a p.b ++ encF q.a q.b) = _
                rw [pa, qa]
        · rw [decide_eq_false tg]; exact .inl rfl
      · rw [decide_eq_false t48]; exact .inl rfl
theorem encF_byt {t : Int} {c : List Int} (t0 : 0 ≤ t) (t1 : t ≤ 255) (hb : Byt c) (hl : c.length ≤ 65535) : Byt (encF t c) := by
  intro d hd
  rcases List.mem_cons.mp hd with rfl | hd
  · exact ⟨t0, t1⟩
  rcases List.mem_append.mp hd with hd | hd
  · unfold lenF at hd
    split at hd
    · cases List.mem_singleton.mp hd; omega
    · split at hd
      · rcases List.mem_cons.mp hd with rfl | hd
        · omega
        · cases List.mem_singleton.mp hd; omega
      · rcases List.mem_cons.mp hd with rfl | hd
        · omega
        · rcases List.mem_cons.mp hd with rfl | hd
          · omega
          · cases List.mem_singleton.mp hd; omega
  · exact hb d hd
theorem numF_byt {v : Int} (h : Builtin.Int.intBits v ≤ 520) : Byt (numF v) := encF_byt (by decide) (by decide) (conF_byt v) (by rw [conF_len]; omega)
theorem pairF_byt {r s : Int} (h : Builtin.Int.intBits r ≤ 520) (k : Builtin.Int.intBits s ≤ 520) : Byt (pairF r s) := by
  have := numF_len h
  have := numF_len k
  exact encF_byt (by decide) (by decide) (byt_app (numF_byt h) (numF_byt k)) (by rw [List.length_append]; omega)
theorem pairF_len {r s : Int} (h : Builtin.Int.intBits r ≤ 520) (k : Builtin.Int.intBits s ≤ 520) : (pairF r s).length ≤ 144 ∧ 1 ≤ (pairF r s).length := by
  have := numF_len h
  have := numF_len k
  have := encF_len 48 (numF r ++ numF s)
  rw [List.length_append] at this
  unfold pairF
  omega
theorem rp_fwd {r s : Int} (r0 : 0 ≤ r) (r1 : Builtin.Int.intBits r ≤ 520) (s0 : 0 ≤ s) (s1 : Builtin.Int.intBits s ≤ 520) : m_read_pair (pairF r s) = .ok (T2.mk r s) := by
  have hb := pairF_byt r1 s1
  have hl := pairF_len r1 s1
  have l1 := numF_len r1
  have l2 := numF_len s1
  have by_ := bytes_ok hb (by omega)
  have sp1 : m_u_split_parts (pairF r s) = .ok [T2.mk 48 (numF r ++ numF s)] := by
    have := split_fwd [T2.mk 48 (numF r ++ numF s)] (by show 1 ≤ 100; decide) (fun p hp => by
      cases List.mem_singleton.mp hp
      show (numF r ++ numF s).length ≤ _
      rw [List.length_append]; omega)
    rw [List.flatMap_cons] at this
    have e : encP (T2.mk 48 (numF r ++ numF s)) ++ ([] : List (T2 Int (List Int))).flatMap encP = pairF r s := List.append_nil _
    rw [e] at this
    exact this
  have sp2 : m_u_split_parts (numF r ++ numF s) = .ok [T2.mk 2 (conF r), T2.mk 2 (conF s)] := by
    have := split_fwd [T2.mk 2 (conF r), T2.mk 2 (conF s)] (by show 2 ≤ 100; decide) (fun p hp => by
      rcases List.mem_cons.mp hp with rfl | hp
      · show (conF r).length ≤ _; rw [conF_len]; omega
      · cases List.mem_singleton.mp hp
        show (conF s).length ≤ _; rw [conF_len]; omega)
    have e : ([T2.mk 2 (conF r), T2.mk 2 (conF s)] : List (T2 Int (List Int))).flatMap encP = numF r ++ numF s := by
      rw [List.flatMap_cons, List.flatMap_cons]
      show numF r ++ (numF s ++ []) = _
      rw [List.append_nil]
    rw [e] at this
    exact this
  have one : m_u_only_part (toD (pairF r s)) = .ok (T2.mk 48 (numF r ++ numF s)) := by
    unfold m_u_only_part
    simp only [by_, Res.bind_ok, Bool.not_true, cond_false, asInts_toD, sp1]
    rfl
  unfold m_read_pair
  simp only [one, Res.bind_ok, sp2]
  rw [tags_ok _ (by show 2 ≤ 60000; decide)]
  rw [decide_true, Bool.not_true, cond_false, Res.bind_ok, Res.need_pos (And.intro (okq_ints _) (okq_ints _)), pyEq_ints]
  rw [show (([T2.mk 2 (conF r), T2.mk 2 (conF s)] : List (T2 Int (List Int))).map fun x => x.a) = [2, 2] from rfl, decide_eq_true rfl, Bool.not_true, Res.bind_ok, cond_false]
  rw [show idx ([T2.mk 2 (conF r), T2.mk 2 (conF s)] : List (T2 Int (List Int))) (0 : Int) = .ok (T2.mk 2 (conF r)) from rfl, show idx ([T2.mk 2 (conF r), T2.mk 2 (conF s)] : List (T2 Int (List Int))) (1 : Int) = .ok (T2.mk 2 (conF s)) from rfl]
  simp only [Res.bind_ok, num_fwd r0 r1, num_fwd s0 s1]
/-! ### the law's own forms -/
theorem lfm_loop (k : List Int × Int → Res (List Int)) : ∀ (ks : List Int) (c : List Int) (n : Int), 0 ≤ n → n < 256 ^ ks.length → ks ≠ [] → c.length + ks.length ≤ 1000 → ∃ m : Nat, 1 ≤ m ∧ m ≤ ks.length ∧ n < 256 ^ m ∧ (m = 1 ∨ 256 ^ (m - 1) ≤ n) ∧ m_u_law_form_l1 k ks (c, n) = k ((dg m n).reverse ++ c, 0)
  | [], _, _, _, _, h, _ => absurd rfl h
  | x :: r, c, n, n0, n1, _, hl => by
    rw [List.length_cons] at hl
    rw [m_u_law_form_l1]
    simp only [Res.bind_ok]
    rw [Res.need_pos (by rw [List.length_singleton]; omega), Res.bind_ok]
    by_cases z : n / 256 = 0
    · rw [decide_eq_true z, cond_true, z]
      refine ⟨1, by omega, by rw [List.length_cons]; omega, by rw [Int.pow_one]; omega, .inl rfl, ?_⟩
      rfl
    · rw [decide_eq_false z, cond_false]
      have n2 : n / 256 < 256 ^ r.length := by
        rw [List.length_cons, Int.pow_succ] at n1
        exact Int.ediv_lt_of_lt_mul (by decide) n1
      have rn : r ≠ [] := by
        rintro rfl
        rw [List.length_nil, Int.pow_zero] at n2
        omega
      obtain ⟨m, m1, m2, m3, m4, e⟩ := lfm_loop k r ([n % 256] ++ c) (n / 256) (by omega) n2 rn (by rw [List.length_append, List.length_singleton]; omega)
      refine ⟨m + 1, by omega, by rw [List.length_cons]; omega, ?_, .inr ?_, ?_⟩
      · rw [Int.pow_succ]; omega
      · rw [Nat.add_sub_cancel]
        rcases m4 with rfl | m4
        · rw [Int.pow_one]; omega
        · have : (256 : Int) ^ m = 256 ^ (m - 1) * 256 := by rw [← Int.pow_succ]; congr 1; omega
          omega
      · rw [e]
        congr 2
        rw [dg, List.reverse_cons, List.append_assoc]
theorem dg_snoc : ∀ (m : Nat) (n : Int), dg (m + 1) n = dg m n ++ [n / 256 ^ m % 256]
  | 0, n => by rw [Int.pow_zero, Int.ediv_one]; rfl
  | m + 1, n => by
    have ih := dg_snoc m (n / 256)
    show n % 256 :: dg (m + 1) (n / 256) = (n % 256 :: dg m (n / 256)) ++ _
    rw [ih, Int.ediv_ediv_of_nonneg (by decide), ← Int.pow_succ']
    rfl
theorem bits_in2 {n : Int} {a b : Nat} (h0 : 2 ^ a ≤ n) (h1 : n < 2 ^ b) : a < Builtin.Int.intBits n ∧ Builtin.Int.intBits n ≤ b := by
  have p : (0 : Int) < 2 ^ a := Int.pow_pos (by decide)
  obtain ⟨k, rfl⟩ := Int.eq_ofNat_of_zero_le (show 0 ≤ n by omega)
  rw [← PySem.W.kbt_cast] at h0 h1
  exact ⟨bits_le (by omega), le_ibits (by rw [Int.natAbs_natCast]; omega)⟩
theorem p256p (m : Nat) : (256 : Int) ^ m = 2 ^ (8 * m) := by rw [Int.pow_mul]; rfl
theorem lform2_ok {n : Int} (n0 : 0 ≤ n) (h : Builtin.Int.intBits n ≤ 520) : m_u_law_form n = .ok (numF n) := by
  have hl : (pyRange 0 90).length = 90 := by rw [pyRange_len]; rfl
  have lt := bits_lt2 n0 h
  unfold m_u_law_form
  simp only [Res.bind_ok]
  rw [Res.need_pos ⟨by decide, by decide⟩, Res.bind_ok]
  generalize pyRange 0 90 = ks at *
  obtain ⟨m, m1, m2, m3, m4, e⟩ := lfm_loop m_u_law_form_k3 ks [] n n0 (by
    rw [hl, p256p]
    have := Nat.pow_le_pow_right (n := 2) (by decide) (show 520 ≤ 8 * 90 by decide)
    rw [← PySem.W.kbt_cast] at lt ⊢
    omega) (fun z => by rw [z] at hl; cases hl) (by rw [hl]; decide)
  rw [e, List.append_nil]
  have k2 : m_u_law_form_k2 (conF n) = .ok (numF n) := by
    have l := conF_len n
    have l3 := lenF_len ((conF n).length : Int)
    unfold m_u_law_form_k2
    rw [ll_ok, Res.bind_ok, Res.need_pos (by rw [List.length_singleton]; omega), Res.bind_ok, Res.need_pos (by rw [List.length_append, List.length_singleton]; omega)]
    rfl
  obtain ⟨j, rfl⟩ : ∃ j, m = j + 1 := ⟨m - 1, by omega⟩
  have pj : (0 : Int) < 256 ^ j := Int.pow_pos (by decide)
  rw [Int.pow_succ] at m3
  rw [Nat.add_sub_cancel] at m4
  have t0 : 0 ≤ n / 256 ^ j := Int.ediv_nonneg n0 (by omega)
  have t1 : n / 256 ^ j < 256 := Int.ediv_lt_of_lt_mul pj (by omega)
  have top : (dg (j + 1) n).reverse = (n / 256 ^ j) :: (dg j n).reverse := by
    rw [dg_snoc, List.reverse_append, Int.emod_eq_of_lt t0 t1]; rfl
  unfold m_u_law_form_k3
  dsimp only
  rw [top, show idx ((n / 256 ^ j) :: (dg j n).reverse) (0 : Int) = .ok (n / 256 ^ j) from idx_int (by decide) rfl, Res.bind_ok, Res.bind_ok, ← top]
  have pw : ∀ a b : Nat, a ≤ b → (2 : Int) ^ a ≤ 2 ^ b := fun a b hab => by
    have := Nat.pow_le_pow_right (n := 2) (by decide) hab
    rw [← PySem.W.kbt_cast, ← PySem.W.kbt_cast]; omega
  by_cases c : (128 : Int) ≤ n / 256 ^ j
  · have lo : 128 * 256 ^ j ≤ n := by
      have := Int.mul_le_of_le_ediv pj c
      omega
    have b := bits_in2 (n := n) (a := 8 * j + 7) (b := 8 * j + 8) (by
      rw [Int.pow_add, ← p256p]
      show 256 ^ j * 128 ≤ n
      omega) (by
      rw [Int.pow_add, ← p256p]
      show n < 256 ^ j * 256
      omega)
    have cf : conF n = [0] ++ (dg (j + 1) n).reverse := by
      unfold conF
      rw [show Builtin.Int.intBits n / 8 + 1 = j + 1 + 1 by omega, dg_snoc (j + 1), List.reverse_append, Int.ediv_eq_zero_of_lt n0 (by rw [Int.pow_succ]; omega)]
      rfl
    rw [decide_eq_true c, cond_true, Res.need_pos (by rw [List.length_reverse, dg_len, List.length_singleton]; omega), Res.bind_ok, ← cf]
    exact k2
  · have hi : n < 128 * 256 ^ j := by
      have := Int.lt_mul_of_ediv_lt pj (show n / 256 ^ j < 128 by omega)
      omega
    have b1 : Builtin.Int.intBits n ≤ 8 * j + 7 := by
      obtain ⟨k, rfl⟩ := Int.eq_ofNat_of_zero_le n0
      refine le_ibits ?_
      rw [Int.natAbs_natCast]
      have : ((k : Nat) : Int) < 2 ^ (8 * j + 7) := by
        rw [Int.pow_add, ← p256p]
        show _ < 256 ^ j * 128
        omega
      rw [← PySem.W.kbt_cast] at this
      omega
    have b2 : 8 * j ≤ Builtin.Int.intBits n := by
      rcases m4 with z | m4
      · omega
      · by_cases z : j = 0
        · omega
        · obtain ⟨k, rfl⟩ := Int.eq_ofNat_of_zero_le n0
          rw [p256p, ← PySem.W.kbt_cast] at m4
          have := bits_le (p := k) (b := 8 * j) (by omega)
          omega
    have cf : conF n = (dg (j + 1) n).reverse := by
      unfold conF
      rw [show Builtin.Int.intBits n / 8 + 1 = j + 1 by omega]
    rw [decide_eq_false c, cond_false, ← cf]
    exact k2
theorem islist_ok (xs : List Int) : m_u_law_is_list (toD xs) xs = .ok true := by
  have q : ∀ (k : Unit → Res Bool), k () = .ok true → ∀ ys : List Int, m_u_law_is_list_l2 k (List.zipWith T2.mk (ys.map D.int) ys) () = .ok true := by
    intro k hk ys
    induction ys with
    | nil => rw [List.map_nil, List.zipWith_nil_left, m_u_law_is_list_l2]; exact hk
    | cons y r ih =>
      rw [List.map_cons, List.zipWith_cons_cons, m_u_law_is_list_l2]
      have p1 : (toD (D.int y)).plain = true := rfl
      have h1 : isI "int" (toD (D.int y)) = true := rfl
      have h2 : isI "bool" (toD (D.int y)) = false := rfl
      have ok : (toD (D.int y)).okq = true ∧ (toD y).okq = true := ⟨rfl, rfl⟩
      have e : pyEq (toD (D.int y)) (toD y) = true := pyEq_self (x := D.int y) rfl
      unfold m_u_law_integer
      simp only [Res.need_pos p1, Res.bind_ok, h1, h2, cond_true, Bool.not_false, Bool.not_true, cond_false, Res.need_pos ok, e]
      exact ih
  have p1 : (toD (toD xs : D)).plain = true := rfl
  have h1 : isI "list" (toD (toD xs : D)) = true := rfl
  have l1 : D.lenR (toD xs) = .ok (xs.length : Int) := by
    show Res.ok (((xs.map D.int).length : Nat) : Int) = _
    rw [List.length_map]
  unfold m_u_law_is_list
  simp only [Res.need_pos p1, Res.bind_ok, h1, Bool.not_true, cond_false, l1, decide_true, by_map, q m_u_law_is_list_k3 rfl xs]

/-! ### k31: trees, their forms, levels and parts -/
inductive Td : Nat → D → Prop
  | num {k : Nat} {v : Int} : 0 ≤ v → Builtin.Int.intBits v ≤ 520 → Td k (D.int v)
  | tup {k : Nat} {ds : List D} : ds.length ≤ 60000 → (∀ d ∈ ds, Td k d) → Td (k + 1) (D.tup ds)
mutual
def formD : D → List Int
  | .int v => numF v
  | .tup ds => encF 48 (formDs ds)
  | _ => []
def formDs : List D → List Int
  | [] => []
  | d :: r => formD d ++ formDs r
end
mutual
def deepD : D → Nat
  | .tup ds => 1 + deepDs ds
  | _ => 0
def deepDs : List D → Nat
  | [] => 0
  | d :: r => max (deepD d) (deepDs r)
end
mutual
def partD : D → Nat
  | .tup ds => 1 + partDs ds
  | _ => 1
def partDs : List D → Nat
  | [] => 0
  | d :: r => partD d + partDs r
end
theorem td_mono {k : Nat} {d : D} (h : Td k d) : ∀ {l : Nat}, k ≤ l → Td l d := by
  induction h with
  | num a b => exact fun _ => .num a b
  | @tup k ds a b ih =>
    intro l hl
    obtain ⟨m, rfl⟩ : ∃ m, l = m + 1 := ⟨l - 1, by omega⟩
    exact .tup a fun d hd => ih d hd (by omega)
theorem deepDs_le {ds : List D} {n : Nat} (h : ∀ d ∈ ds, deepD d ≤ n) : deepDs ds ≤ n := by
  induction ds with
  | nil => exact Nat.zero_le _
  | cons x r ih =>
    have a := h x List.mem_cons_self
    have b := ih fun z hz => h z (List.mem_cons_of_mem _ hz)
    show max (deepD x) (deepDs r) ≤ n
    omega
theorem deepDs_mem {ds : List D} {d : D} (h : d ∈ ds) : deepD d ≤ deepDs ds := by
  induction ds with
  | nil => cases h
  | cons x r ih =>
    show _ ≤ max (deepD x) (deepDs r)
    rcases List.mem_cons.mp h with rfl | h
    · omega
    · have := ih h; omega
theorem td_lv {k : Nat} {d : D} (h : Td k d) : deepD d ≤ k := by
  induction h with
  | num a b => exact Nat.zero_le _
  | @tup k ds a b ih =>
    have := deepDs_le ih
    show 1 + deepDs ds ≤ k + 1
    omega
theorem td_tight {k : Nat} {d : D} (h : Td k d) : Td (deepD d) d := by
  induction h with
  | num a b => exact .num a b
  | @tup k ds a b ih =>
    show Td (1 + deepDs ds) _
    rw [Nat.add_comm]
    exact .tup a fun d hd => td_mono (ih d hd) (deepDs_mem hd)
/-- a form's length by its parts -/
theorem formD_len {k : Nat} {d : D} (h : Td k d) : (formD d).length ≤ 70 * partD d := by
  induction h with
  | num a b => exact numF_len b
  | @tup k ds a b ih =>
    have q : ∀ xs : List D, (∀ d ∈ xs, (formD d).length ≤ 70 * partD d) → (formDs xs).length ≤ 70 * partDs xs := by
      intro xs
      induction xs with
      | nil => exact fun _ => Nat.le_refl _
      | cons x r ihr =>
        intro hx
        have := hx x List.mem_cons_self
        have := ihr fun z hz => hx z (List.mem_cons_of_mem _ hz)
        show (formD x ++ formDs r).length ≤ 70 * (partD x + partDs r)
        rw [List.length_append]; omega
    have := q ds ih
    have := encF_len 48 (formDs ds)
    show (encF 48 (formDs ds)).length ≤ 70 * (1 + partDs ds)
    omega
theorem formD_byt {k : Nat} {d : D} (h : Td k d) : (formD d).length ≤ 65535 → Byt (formD d) := by
  induction h with
  | num a b => exact fun _ => numF_byt b
  | @tup k ds a b ih =>
    intro hl
    have el := encF_len 48 (formDs ds)
    have hl : (encF 48 (formDs ds)).length ≤ 65535 := hl
    have q : ∀ xs : List D, (∀ d ∈ xs, (formD d).length ≤ 65535 → Byt (formD d)) → (formDs xs).length ≤ 65535 → Byt (formDs xs) := by
      intro xs
      induction xs with
      | nil => exact fun _ _ d hd => nomatch hd
      | cons x r ihr =>
        intro hx hl
        have e : formDs (x :: r) = formD x ++ formDs r := rfl
        rw [e, List.length_append] at hl
        rw [e]
        exact byt_app (hx x List.mem_cons_self (by omega)) (ihr (fun z hz => hx z (List.mem_cons_of_mem _ hz)) (by omega))
    exact encF_byt (by decide) (by decide) (q ds ih (by omega)) (by omega)
theorem formDs_mem {ds : List D} {d : D} (h : d ∈ ds) : (formD d).length ≤ (formDs ds).length := by
  induction ds with
  | nil => cases h
  | cons x r ih =>
    show _ ≤ (formD x ++ formDs r).length
    rw [List.length_append]
    rcases List.mem_cons.mp h with rfl | h
    · omega
    · have := ih h; omega
/-! ### forms are read in one way -/
theorem lenF_inj {s t : Int} {p q : List Int} (s0 : 0 ≤ s) (s1 : s ≤ 65535) (t0 : 0 ≤ t) (t1 : t ≤ 65535) (h : lenF s ++ p = lenF t ++ q) : s = t ∧ p = q := by
  unfold lenF at h
  by_cases a : s < 128
  · by_cases b : t < 128
    · rw [if_pos a, if_pos b] at h
      injection h with h1 h2
      exact ⟨h1, h2⟩
    · rw [if_pos a, if_neg b] at h
      exfalso
      by_cases c : t < 256
      · rw [if_pos c] at h; injection h with h1 _; omega
      · rw [if_neg c] at h; injection h with h1 _; omega
  · rw [if_neg a] at h
    by_cases b : t < 128
    · rw [if_pos b] at h
      exfalso
      by_cases c : s < 256
      · rw [if_pos c] at h; injection h with h1 _; omega
      · rw [if_neg c] at h; injection h with h1 _; omega
    · rw [if_neg b] at h
      by_cases c : s < 256
      · rw [if_pos c] at h
        by_cases e : t < 256
        · rw [if_pos e] at h
          injection h with _ h
          injection h with h1 h2
          exact ⟨h1, h2⟩
        · rw [if_neg e] at h; injection h with h1 _; omega
      · rw [if_neg c] at h
        by_cases e : t < 256
        · rw [if_pos e] at h; injection h with h1 _; omega
        · rw [if_neg e] at h
          injection h with _ h
          injection h with h1 h
          injection h with h2 h3
          exact ⟨by omega, h3⟩
theorem encF_inj {t u : Int} {c e p q : List Int} (hc : c.length ≤ 65535) (he : e.length ≤ 65535) (h : encF t c ++ p = encF u e ++ q) : t = u ∧ c = e ∧ p = q := by
  unfold encF at h
  rw [List.cons_append, List.cons_append] at h
  injection h with h1 h2
  rw [List.append_assoc, List.append_assoc] at h2
  obtain ⟨a, b⟩ := lenF_inj (by omega) (by omega) (by omega) (by omega) h2
  have a : c.length = e.length := by omega
  obtain ⟨b1, b2⟩ := List.append_inj b a
  exact ⟨h1, b1, b2⟩

theorem cl_map {β : Type} {f : D → Res β} {g : D → β} {xs : List D} (h : ∀ x ∈ xs, f x = .ok (g x)) : compL (fun (_ : D) => Res.ok true) (fun x => (f x).noexc) xs = .ok (xs.map g) := compL_map (fun _ _ => rfl) fun x hx => by rw [h x hx]; rfl
theorem foldl_max (ds : List D) : ∀ a : Nat, (ds.map fun d => ((deepD d : Nat) : Int)).foldl max (a : Int) = ((max a (deepDs ds) : Nat) : Int) := by
  induction ds with
  | nil => intro a; show (a : Int) = ((max a 0 : Nat) : Int); rw [Nat.max_zero]
  | cons x r ih =>
    intro a
    rw [List.map_cons, List.foldl_cons]
    have e : max (a : Int) ((deepD x : Nat) : Int) = ((max a (deepD x) : Nat) : Int) := by omega
    rw [e, ih]
    show _ = ((max a (max (deepD x) (deepDs r)) : Nat) : Int)
    congr 1; omega
theorem lmax0_deep (ds : List D) : lmax0 (ds.map fun d => ((deepD d : Nat) : Int)) 0 = ((deepDs ds : Nat) : Int) := by
  cases ds with
  | nil => rfl
  | cons x r =>
    show (r.map fun d => ((deepD d : Nat) : Int)).foldl max ((deepD x : Nat) : Int) = _
    exact foldl_max r _
theorem sum_parts (ds : List D) : (ds.map fun d => ((partD d : Nat) : Int)).sum = ((partDs ds : Nat) : Int) := by
  induction ds with
  | nil => rfl
  | cons x r ih =>
    rw [List.map_cons, List.sum_cons, ih]
    show _ = ((partD x + partDs r : Nat) : Int)
    omega
theorem asTu_tup (ds : List D) : D.asTu (D.tup ds) = .ok ⟨ds⟩ := rfl
theorem it_tup (ds : List D) : isI "tuple" (toD (D.tup ds)) = true := rfl
theorem levels_ok : ∀ (f k : Nat) (d : D), k < f → Td k d → m_u_levels f d = .ok ((deepD d : Nat) : Int)
  | 0, _, _, h, _ => absurd h (Nat.not_lt_zero _)
  | f + 1, k, d, h, td => by
    show m_u_levels_b (m_u_levels f) d = _
    unfold m_u_levels_b
    cases td with
    | num a b => rw [Res.need_pos (by rfl)]; rfl
    | @tup k ds a b =>
      have all := cl_map (f := m_u_levels f) (g := fun d => ((deepD d : Nat) : Int)) (xs := ds) fun x hx => levels_ok f k x (by omega) (b x hx)
      rw [Res.need_pos (by rfl)]
      simp only [Res.bind_ok, it_tup, Bool.not_true, cond_false, asTu_tup, Res.need_pos (show ds.length ≤ 16777216 by omega), all, lmax0_deep]
      show Res.ok _ = Res.ok (((1 + deepDs ds : Nat)) : Int)
      congr 1
theorem parts_ok : ∀ (f k : Nat) (d : D), k < f → Td k d → m_u_part_count f d = .ok ((partD d : Nat) : Int)
  | 0, _, _, h, _ => absurd h (Nat.not_lt_zero _)
  | f + 1, k, d, h, td => by
    show m_u_part_count_b (m_u_part_count f) d = _
    unfold m_u_part_count_b
    cases td with
    | num a b => rw [Res.need_pos (by rfl)]; rfl
    | @tup k ds a b =>
      have all := cl_map (f := m_u_part_count f) (g := fun d => ((partD d : Nat) : Int)) (xs := ds) fun x hx => parts_ok f k x (by omega) (b x hx)
      rw [Res.need_pos (by rfl)]
      simp only [Res.bind_ok, it_tup, Bool.not_true, cond_false, asTu_tup, Res.need_pos (show ds.length ≤ 16777216 by omega), all, sum_parts]
      show Res.ok _ = Res.ok (((1 + partDs ds : Nat)) : Int)
      congr 1
theorem c2g {f : D → Res (List Int)} : ∀ (xs : List D) (acc : List Int), (∀ x ∈ xs, f x = .ok (formD x)) → acc.length + (formDs xs).length ≤ 16777216 → compL2G (fun x => f x) (fun (_ : D) (y : Int) => y) xs acc = .ok (acc ++ formDs xs)
  | [], acc, _, _ => by show Res.ok acc = Res.ok (acc ++ []); rw [List.append_nil]
  | x :: r, acc, h, hl => by
    have e : formDs (x :: r) = formD x ++ formDs r := rfl
    rw [e, List.length_append] at hl
    unfold compL2G
    rw [h x List.mem_cons_self, Res.bind_ok, Res.need_pos (by omega), List.map_id', c2g r _ (fun z hz => h z (List.mem_cons_of_mem _ hz)) (by rw [List.length_append]; omega), e, List.append_assoc]
theorem tpart_ok : ∀ (f k : Nat) (d : D), k < f → Td k d → (formD d).length ≤ 65535 → m_u_tree_part f d = .ok (formD d)
  | 0, _, _, h, _, _ => absurd h (Nat.not_lt_zero _)
  | f + 1, k, d, h, td, hl => by
    show m_u_tree_part_b (m_u_tree_part f) d = _
    unfold m_u_tree_part_b
    cases td with
    | @num k v a b =>
      rw [Res.need_pos (by rfl)]
      show (m_write_number v) = _
      rw [wnum_ok a b]; rfl
    | @tup k ds a b =>
      have el := encF_len 48 (formDs ds)
      have hl : (encF 48 (formDs ds)).length ≤ 65535 := hl
      have all := c2g (f := m_u_tree_part f) ds [] (fun x hx => tpart_ok f k x (by omega) (b x hx) (by have := formDs_mem hx; omega)) (by show 0 + _ ≤ _; omega)
      rw [Res.need_pos (by rfl)]
      simp only [Res.bind_ok, it_tup, Bool.not_true, cond_false, asTu_tup, all, List.nil_append]
      exact part_ok 48 (by omega)
theorem wtree_ok {k : Nat} {d : D} (td : Td k d) (hk : k ≤ 11) (hl : (formD d).length ≤ 65535) : m_write_tree d = if deepD d ≤ 8 ∧ partD d ≤ 64 then .ok (formD d) else .exc "OutOfRange" := by
  unfold m_write_tree
  rw [levels_ok 12 k d (by omega) td, parts_ok 12 k d (by omega) td]
  simp only [Res.bind_ok]
  by_cases a : deepD d ≤ 8
  · rw [decide_eq_false (by omega), cond_false, Res.bind_ok]
    by_cases b : partD d ≤ 64
    · rw [decide_eq_false (by omega), cond_false, if_pos ⟨a, b⟩]
      exact tpart_ok 12 k d (by omega) td hl
    · rw [decide_eq_true (by omega), cond_true, if_neg (fun h => b h.2)]
  · rw [decide_eq_true (by omega), cond_true, Res.bind_ok, cond_true, if_neg (fun h => a h.1)]
/-! ### reading -/
theorem only_inv {data : List Int} (hb : Byt data) (hl : data.length ≤ 60000) : m_u_only_part (toD data) = .exc "Malformed" ∨ ∃ t c, m_u_only_part (toD data) = .ok (T2.mk t c) ∧ data = encF t c ∧ Byt c ∧ c.length ≤ data.length := by
  unfold m_u_only_part
  simp only [bytes_ok hb (by omega), Res.bind_ok, Bool.not_true, cond_false, asInts_toD]
  rcases split_inv hb (by omega) with e | ⟨ps, e, d, m⟩
  · rw [e]; exact .inl rfl
  · rw [e, Res.bind_ok]
    match ps, d, m with
    | [], _, _ => exact .inl rfl
    | [p], d, m =>
      refine .inr ⟨p.a, p.b, rfl, ?_, (m p List.mem_cons_self).1, (m p List.mem_cons_self).2⟩
      rw [d, List.flatMap_cons]
      show encP p ++ [] = _
      rw [List.append_nil]; rfl
    | p :: q :: r, _, _ =>
      rw [decide_eq_false (by rw [List.length_cons, List.length_cons]; omega)]; exact .inl rfl
theorem only_fwd {t : Int} {c : List Int} (hb : Byt (encF t c)) (hl : c.length ≤ 65535) : m_u_only_part (toD (encF t c)) = .ok (T2.mk t c) := by
  have el := encF_len t c
  have sp := split_fwd [T2.mk t c] (by show 1 ≤ 100; decide) (fun p hp => by
    cases List.mem_singleton.mp hp
    exact hl)
  rw [List.flatMap_cons, show encP (T2.mk t c) ++ ([] : List (T2 Int (List Int))).flatMap encP = encF t c from List.append_nil _] at sp
  unfold m_u_only_part
  simp only [bytes_ok hb (by omega), Res.bind_ok, Bool.not_true, cond_false, asInts_toD, sp]
  rfl
/-- a tree's tag and content -/
def tagD : D → Int
  | .tup _ => 48
  | _ => 2
def conD : D → List Int
  | .int v => conF v
  | .tup ds => formDs ds
  | _ => []
theorem form_tc {k : Nat} {d : D} (h : Td k d) : formD d = encF (tagD d) (conD d) := by cases h <;> rfl
/-- the parts read, one by one, are those of the forms -/
theorem compL_forms {el : T2 Int (List Int) → Res D} {R : D → Prop} : ∀ xs : List (T2 Int (List Int)), (∀ x ∈ xs, el x = .exc "Malformed" ∨ ∃ y, el x = .ok y ∧ R y ∧ formD y = encP x) → compL (fun _ => Res.ok true) el xs = .exc "Malformed" ∨ ∃ ys, compL (fun _ => Res.ok true) el xs = .ok ys ∧ (∀ y ∈ ys, R y) ∧ ys.length = xs.length ∧ formDs ys = xs.flatMap encP
  | [], _ => .inr ⟨[], rfl, (fun _ h => nomatch h), rfl, rfl⟩
  | x :: r, h => by
    have st : compL (fun _ => Res.ok true) el (x :: r) = (el x).bind fun y => (compL (fun _ => Res.ok true) el r).bind fun ys => .ok (y :: ys) := rfl
    rw [st]
    rcases h x List.mem_cons_self with e | ⟨y, e, ry, fy⟩
    · rw [e]; exact .inl rfl
    · rw [e, Res.bind_ok]
      rcases compL_forms r fun z hz => h z (List.mem_cons_of_mem _ hz) with e2 | ⟨ys, e2, r2, l2, f2⟩
      · rw [e2]; exact .inl rfl
      · rw [e2]
        refine .inr ⟨y :: ys, rfl, fun z hz => ?_, by rw [List.length_cons, List.length_cons, l2], by rw [List.flatMap_cons, ← fy, ← f2]; rfl⟩
        rcases List.mem_cons.mp hz with rfl | hz
        · exact ry
        · exact r2 z hz
theorem tup_tu (ds : List D) : (toD (Tu.mk ds) : D) = D.tup ds := by
  show D.tup (ds.map fun x => x) = _
  rw [List.map_id']
theorem tree_inv : ∀ (f lv : Nat) (t : Int) (c : List Int), lv < f → Byt c → c.length ≤ 50000 → m_u_tree_value f t c (lv : Int) = .exc "Malformed" ∨ ∃ d, m_u_tree_value f t c (lv : Int) = .ok d ∧ Td lv d ∧ formD d = encF t c
  | 0, _, _, _, h, _, _ => absurd h (Nat.not_lt_zero _)
  | f + 1, lv, t, c, h, hb, hl => by
    show m_u_tree_value_b (m_u_tree_value f) t c (lv : Int) = _ ∨ ∃ d, m_u_tree_value_b (m_u_tree_value f) t c (lv : Int) = _ ∧ _
    unfold m_u_tree_value_b
    rw [Res.bind_ok]
    by_cases t2 : t = 2
    · rw [decide_eq_true t2, cond_true]
      rcases num_inv hb (by omega) with e | ⟨v, e, v0, v1, v2⟩
      · rw [e]; exact .inl rfl
      · rw [e]
        exact .inr ⟨D.int v, rfl, .num v0 v1, by rw [t2, ← v2]; rfl⟩
    · rw [decide_eq_false t2, cond_false, Res.bind_ok]
      by_cases t48 : t = 48
      · rw [decide_eq_true t48, Bool.not_true, cond_false, Res.bind_ok]
        by_cases z : (lv : Int) = 0
        · rw [decide_eq_true z]; exact .inl rfl
        · rw [decide_eq_false z, cond_false]
          obtain ⟨l, rfl⟩ : ∃ l, lv = l + 1 := ⟨lv - 1, by omega⟩
          rcases split_inv hb (by omega) with e | ⟨ps, e, d, m⟩
          · rw [e]; exact .inl rfl
          · have pl : ps.length ≤ c.length := by
              rw [d]
              clear d m e
              induction ps with
              | nil => exact Nat.le_refl _
              | cons q r ih =>
                rw [List.flatMap_cons, List.length_append, List.length_cons]
                have : 1 ≤ (encP q).length := by show 1 ≤ (encF q.a q.b).length; have := encF_len q.a q.b; omega
                omega
            rw [e, Res.bind_ok, Res.need_pos (by omega), show ((l + 1 : Nat) : Int) - 1 = (l : Int) by omega]
            have all : ∀ p ∈ ps, m_u_tree_value f p.a p.b (l : Int) = .exc "Malformed" ∨ ∃ y, m_u_tree_value f p.a p.b (l : Int) = .ok y ∧ Td l y ∧ formD y = encP p := fun p hp => by
              obtain ⟨pb, pl2⟩ := m p hp
              exact tree_inv f l p.a p.b (by omega) pb (by omega)
            rcases compL_forms (el := fun (p : T2 Int (List Int)) => m_u_tree_value f p.a p.b (l : Int)) ps all with e3 | ⟨ds, e3, r3, l3, f3⟩
            · rw [e3]; exact .inl rfl
            · rw [e3]
              refine .inr ⟨D.tup ds, ?_, .tup (by omega) r3, ?_⟩
              · show Res.ok (toD (Tu.mk ds)) = _
                rw [tup_tu]
              · show encF 48 (formDs ds) = _
                rw [f3, ← d, t48]
      · rw [decide_eq_false t48]; exact .inl rfl
theorem compL_fwd {el : T2 Int (List Int) → Res D} {n : Nat} : ∀ ds : List D, (∀ d ∈ ds, el (T2.mk (tagD d) (conD d)) = if deepD d ≤ n then .ok d else .exc "Malformed") → compL (fun _ => Res.ok true) el (ds.map fun d => T2.mk (tagD d) (conD d)) = if deepDs ds ≤ n then .ok ds else .exc "Malformed"
  | [], _ => by rw [if_pos (show deepDs [] ≤ n from Nat.zero_le _)]; rfl
  | x :: r, h => by
    have st : compL (fun _ => Res.ok true) el ((x :: r).map fun d => T2.mk (tagD d) (conD d)) = (el (T2.mk (tagD x) (conD x))).bind fun y => (compL (fun _ => Res.ok true) el (r.map fun d => T2.mk (tagD d) (conD d))).bind fun ys => .ok (y :: ys) := rfl
    rw [st, h x List.mem_cons_self, compL_fwd r fun z hz => h z (List.mem_cons_of_mem _ hz)]
    have e : deepDs (x :: r) = max (deepD x) (deepDs r) := rfl
    rw [e]
    by_cases a : deepD x ≤ n
    · rw [if_pos a, Res.bind_ok]
      by_cases b : deepDs r ≤ n
      · rw [if_pos b, if_pos (by omega)]; rfl
      · rw [if_neg b, if_neg (by omega)]; rfl
    · rw [if_neg a, if_neg (show ¬ max (deepD x) (deepDs r) ≤ n by omega)]; rfl
inductive Nar : D → Prop
  | num {v : Int} : Nar (D.int v)
  | tup {ds : List D} : ds.length ≤ 100 → (∀ d ∈ ds, Nar d) → Nar (D.tup ds)
theorem tree_fwd : ∀ (f lv k : Nat) (d : D), lv < f → Td k d → Nar d → (formD d).length ≤ 65535 → m_u_tree_value f (tagD d) (conD d) (lv : Int) = if deepD d ≤ lv then .ok d else .exc "Malformed"
  | 0, _, _, _, h, _, _, _ => absurd h (Nat.not_lt_zero _)
  | f + 1, lv, k, d, h, td, nr, hl => by
    show m_u_tree_value_b (m_u_tree_value f) (tagD d) (conD d) (lv : Int) = _
    unfold m_u_tree_value_b
    cases td with
    | @num k v a b =>
      show (m_u_number (conF v)).bind _ = _
      rw [num_fwd a b, if_pos (show deepD (D.int v) ≤ lv from Nat.zero_le _)]; rfl
    | @tup k ds a b =>
      have el := encF_len 48 (formDs ds)
      have hl : (encF 48 (formDs ds)).length ≤ 65535 := hl
      have e : deepD (D.tup ds) = 1 + deepDs ds := rfl
      cases nr with
      | tup n1 n2 =>
      show Res.bind (Res.ok (decide ((48 : Int) = 2))) _ = _
      rw [Res.bind_ok, show decide ((48 : Int) = 2) = false from rfl, cond_false, Res.bind_ok]
      show cond (!decide ((48 : Int) = 48)) _ _ = _
      rw [show decide ((48 : Int) = 48) = true from rfl, Bool.not_true, cond_false, Res.bind_ok]
      by_cases z : (lv : Int) = 0
      · rw [decide_eq_true z, cond_true, if_neg (by omega)]
      · rw [decide_eq_false z, cond_false]
        obtain ⟨l, rfl⟩ : ∃ l, lv = l + 1 := ⟨lv - 1, by omega⟩
        have sp := split_fwd (ds.map fun d => T2.mk (tagD d) (conD d)) (by rw [List.length_map]; omega) (fun p hp => by
          obtain ⟨d, hd, rfl⟩ := List.mem_map.mp hp
          have := formDs_mem hd
          rw [form_tc (b d hd)] at this
          have := encF_len (tagD d) (conD d)
          show (conD d).length ≤ _
          omega)
        have fl : ∀ xs : List D, (∀ d ∈ xs, Td k d) → (xs.map fun d => T2.mk (tagD d) (conD d)).flatMap encP = formDs xs := by
          intro xs
          induction xs with
          | nil => exact fun _ => rfl
          | cons x r ih =>
            intro hx
            rw [List.map_cons, List.flatMap_cons, ih fun z hz => hx z (List.mem_cons_of_mem _ hz)]
            show encF (tagD x) (conD x) ++ _ = formD x ++ formDs r
            rw [form_tc (hx x List.mem_cons_self)]
        rw [fl ds b] at sp
        have all := compL_fwd (el := fun (p : T2 Int (List Int)) => m_u_tree_value f p.a p.b (l : Int)) (n := l) ds (fun d hd => tree_fwd f l k d (by omega) (b d hd) (n2 d hd) (by have := formDs_mem hd; omega))
        show (((m_u_split_parts (formDs ds)).bind fun xs => _).bind fun t => _).bind _ = _
        rw [sp, Res.bind_ok, Res.need_pos (by rw [List.length_map]; omega), show ((l + 1 : Nat) : Int) - 1 = (l : Int) by omega]
        show ((compL (fun _ => Res.ok true) (fun (p : T2 Int (List Int)) => m_u_tree_value f p.a p.b (l : Int)) _).bind _).bind _ = _
        rw [all]
        by_cases q : deepDs ds ≤ l
        · rw [if_pos q, if_pos (by omega), Res.bind_ok, Res.bind_ok, tup_tu]
        · rw [if_neg q, if_neg (by omega)]; rfl
theorem rt_inv {data : List Int} (hb : Byt data) (hl : data.length ≤ 50000) : m_read_tree (toD data) = .exc "Malformed" ∨ ∃ d, m_read_tree (toD data) = .ok d ∧ Td 8 d ∧ partD d ≤ 64 ∧ formD d = data := by
  unfold m_read_tree
  rcases only_inv hb (by omega) with e | ⟨t, c, e, d, cb, cl⟩
  · rw [e]; exact .inl rfl
  · rw [e, Res.bind_ok]
    dsimp only
    rcases tree_inv 12 8 t c (by decide) cb (by omega) with e2 | ⟨y, e2, ty, q⟩
    · rw [show (8 : Int) = ((8 : Nat) : Int) from rfl, e2]; exact .inl rfl
    · rw [show (8 : Int) = ((8 : Nat) : Int) from rfl, e2, Res.bind_ok, parts_ok 12 8 y (by decide) ty, Res.bind_ok, Res.bind_ok]
      by_cases big : (64 : Int) < ((partD y : Nat) : Int)
      · rw [decide_eq_true big]; exact .inl rfl
      · rw [decide_eq_false big, cond_false]
        exact .inr ⟨y, rfl, ty, by omega, by rw [q, d]⟩
theorem rt_fwd {k : Nat} {d : D} (td : Td k d) (nr : Nar d) (hl : (formD d).length ≤ 65535) : m_read_tree (toD (formD d)) = if deepD d ≤ 8 ∧ partD d ≤ 64 then .ok d else .exc "Malformed" := by
  have hb := formD_byt td hl
  have ft := form_tc td
  have el := encF_len (tagD d) (conD d)
  rw [ft] at hb hl
  have one := only_fwd hb (by omega)
  rw [← ft] at one hl
  unfold m_read_tree
  rw [one, Res.bind_ok]
  dsimp only
  rw [show (8 : Int) = ((8 : Nat) : Int) from rfl, tree_fwd 12 8 k d (by decide) td nr hl]
  by_cases a : deepD d ≤ 8
  · have td8 := td_mono (td_tight td) a
    rw [if_pos a, Res.bind_ok, parts_ok 12 8 d (by decide) td8, Res.bind_ok, Res.bind_ok]
    by_cases big : (64 : Int) < ((partD d : Nat) : Int)
    · rw [decide_eq_true big, cond_true, if_neg (by omega)]
    · rw [decide_eq_false big, cond_false, if_pos (by omega)]
  · rw [if_neg a, if_neg (by omega)]; rfl

/-! ### k31: the law's own tree functions -/
theorem lmax_zero (ds : List D) : lmax ((ds.map fun d => ((deepD d : Nat) : Int)) ++ [0]) = ((deepDs ds : Nat) : Int) := by
  cases ds with
  | nil => rfl
  | cons x r =>
    show ((r.map fun d => ((deepD d : Nat) : Int)) ++ [0]).foldl max ((deepD x : Nat) : Int) = _
    rw [List.foldl_append, foldl_max r]
    show max _ (0 : Int) = ((max (deepD x) (deepDs r) : Nat) : Int)
    omega
theorem ldeep_ok : ∀ (f k : Nat) (d : D), k < f → Td k d → m_u_law_deep f d = .ok ((deepD d : Nat) : Int)
  | 0, _, _, h, _ => absurd h (Nat.not_lt_zero _)
  | f + 1, k, d, h, td => by
    show m_u_law_deep_b (m_u_law_deep f) d = _
    unfold m_u_law_deep_b
    cases td with
    | num a b => rw [Res.need_pos (by rfl)]; rfl
    | @tup k ds a b =>
      have all := cl_map (f := m_u_law_deep f) (g := fun d => ((deepD d : Nat) : Int)) (xs := ds) fun x hx => ldeep_ok f k x (by omega) (b x hx)
      rw [Res.need_pos (by rfl)]
      simp only [Res.bind_ok, it_tup, Bool.not_true, cond_false, asTu_tup, Res.need_pos (show ds.length ≤ 16777216 by omega), all]
      rw [Res.need_pos (by rw [List.length_map, List.length_singleton]; omega), Res.bind_ok, Res.bind_ok, Res.need_pos (by rw [List.length_append, List.length_singleton]; omega), lmax_zero, Res.bind_ok]
      show Res.ok _ = Res.ok (((1 + deepDs ds : Nat)) : Int)
      congr 1
theorem lparts_ok : ∀ (f k : Nat) (d : D), k < f → Td k d → m_u_law_parts f d = .ok ((partD d : Nat) : Int)
  | 0, _, _, h, _ => absurd h (Nat.not_lt_zero _)
  | f + 1, k, d, h, td => by
    show m_u_law_parts_b (m_u_law_parts f) d = _
    unfold m_u_law_parts_b
    cases td with
    | num a b => rw [Res.need_pos (by rfl)]; rfl
    | @tup k ds a b =>
      have all := cl_map (f := m_u_law_parts f) (g := fun d => ((partD d : Nat) : Int)) (xs := ds) fun x hx => lparts_ok f k x (by omega) (b x hx)
      rw [Res.need_pos (by rfl)]
      simp only [Res.bind_ok, it_tup, Bool.not_true, cond_false, asTu_tup, Res.need_pos (show ds.length ≤ 16777216 by omega), all, sum_parts]
      show Res.ok _ = Res.ok (((1 + partDs ds : Nat)) : Int)
      congr 1
theorem ltree_loop {f : D → Res (List Int)} {k2 : List Int → Res (List Int)} : ∀ (xs : List D) (acc : List Int), (∀ x ∈ xs, f x = .ok (formD x)) → acc.length + (formDs xs).length ≤ 16777216 → m_u_law_tree_l2 f k2 xs acc = k2 (acc ++ formDs xs)
  | [], acc, _, _ => by rw [m_u_law_tree_l2, show formDs [] = [] from rfl, List.append_nil]
  | x :: r, acc, h, hl => by
    have e : formDs (x :: r) = formD x ++ formDs r := rfl
    rw [e, List.length_append] at hl
    rw [m_u_law_tree_l2]
    dsimp only
    rw [h x List.mem_cons_self, Res.bind_ok, Res.need_pos (by omega), Res.bind_ok, ltree_loop r _ (fun z hz => h z (List.mem_cons_of_mem _ hz)) (by rw [List.length_append]; omega), e, List.append_assoc]
theorem ltreeD_ok : ∀ (f k : Nat) (d : D), k < f → Td k d → (formD d).length ≤ 65535 → m_u_law_tree f d = .ok (formD d)
  | 0, _, _, h, _, _ => absurd h (Nat.not_lt_zero _)
  | f + 1, k, d, h, td, hl => by
    show m_u_law_tree_b (m_u_law_tree f) d = _
    unfold m_u_law_tree_b
    cases td with
    | @num k v a b =>
      rw [Res.need_pos (by rfl)]
      exact lform2_ok a b
    | @tup k ds a b =>
      have el := encF_len 48 (formDs ds)
      have hl : (encF 48 (formDs ds)).length ≤ 65535 := hl
      have all : ∀ k2, m_u_law_tree_l2 (m_u_law_tree f) k2 ds [] = k2 ([] ++ formDs ds) := fun k2 => ltree_loop ds [] (fun x hx => ltreeD_ok f k x (by omega) (b x hx) (by have := formDs_mem hx; omega)) (by show 0 + _ ≤ _; omega)
      have ll := lenF_len ((formDs ds).length : Int)
      rw [Res.need_pos (by rfl)]
      simp only [Res.bind_ok, it_tup, Bool.not_true, cond_false, asTu_tup, all, List.nil_append]
      unfold m_u_law_tree_k3
      rw [ll_ok, Res.bind_ok, Res.need_pos (by rw [List.length_singleton]; omega), Res.bind_ok, Res.need_pos (by rw [List.length_append, List.length_singleton]; omega)]
      rfl
theorem isint_int (v : Int) : m_u_law_integer (D.int v) = .ok true := by
  unfold m_u_law_integer
  rw [Res.need_pos (by rfl), Res.bind_ok, show isI "int" (toD (D.int v)) = true from rfl, cond_true, Res.need_pos (by rfl)]; rfl
theorem cshl' {k : Nat} (h : k ≤ 1000) : CShl (1 : Int) (k : Int) := ⟨by omega, by
  have : Builtin.Int.intBits (1 : Int) ≤ 8 := le_ibits (by decide)
  omega⟩
theorem p520 : ∃ b : Int, b = 2 ^ 520 ∧ CShl (1 : Int) (520 : Int) ∧ (1 : Int) * 2 ^ (520 : Int).toNat = b ∧ 0 < b ∧ (∀ k : Nat, k ≤ 520 → (2 : Int) ^ k ≤ b) := by
  refine ⟨2 ^ 520, rfl, cshl' (k := 520) (by decide), by rw [Int.one_mul]; rfl, Int.pow_pos (by decide), fun k hk => ?_⟩
  have := Nat.pow_le_pow_right (n := 2) (by decide) hk
  rw [← PySem.W.kbt_cast, ← PySem.W.kbt_cast]; omega
theorem bits520 {n : Int} (h0 : 0 ≤ n) (h1 : n < 2 ^ 520) : Builtin.Int.intBits n ≤ 520 := by
  obtain ⟨k, rfl⟩ := Int.eq_ofNat_of_zero_le h0
  refine le_ibits ?_
  rw [← PySem.W.kbt_cast] at h1
  rw [Int.natAbs_natCast]; omega
theorem isnum_ok {v : Int} (a : 0 ≤ v) (b : Builtin.Int.intBits v ≤ 520) : m_u_law_is_number (D.int v) = .ok true := by
  obtain ⟨m, em, cs, e, b0, _⟩ := p520
  have lt := bits_lt2 a b
  rw [← em] at lt
  unfold m_u_law_is_number
  rw [isint_int, Res.bind_ok, cond_true]
  show (cond (decide ((0 : Int) ≤ v)) _ _) = _
  rw [decide_eq_true a, cond_true, Res.need_pos cs, e, Res.bind_ok, decide_eq_true lt]
theorem none_left {f : D → Res Bool} : ∀ xs : List D, (∀ x ∈ xs, f x = .ok true) → compL (fun x => ((f x).noexc).bind fun (t : Bool) => Res.ok (!t)) (fun x => Res.ok x) xs = .ok []
  | [], _ => rfl
  | x :: r, h => by
    unfold compL
    rw [h x List.mem_cons_self]
    exact none_left r fun z hz => h z (List.mem_cons_of_mem _ hz)
theorem lfits_ok : ∀ (f k : Nat) (d : D), k < f → Td k d → m_u_law_fits f d = .ok true
  | 0, _, _, h, _ => absurd h (Nat.not_lt_zero _)
  | f + 1, k, d, h, td => by
    show m_u_law_fits_b (m_u_law_fits f) d = _
    unfold m_u_law_fits_b
    cases td with
    | @num k v a b =>
      rw [Res.need_pos (by rfl)]
      exact isnum_ok a b
    | @tup k ds a b =>
      have all := none_left (f := m_u_law_fits f) ds fun x hx => lfits_ok f k x (by omega) (b x hx)
      rw [Res.need_pos (by rfl)]
      simp only [Res.bind_ok, it_tup, cond_true, asTu_tup, Res.need_pos (show ds.length ≤ 16777216 by omega), all]
      rfl
/-! ### the drawn values -/
def bnd : Nat → Nat → Nat
  | 0, _ => 1
  | d + 1, m => if m ≤ 1 then 1 else 1 + max (bnd d m) (max (2 * bnd d (m / 2)) (3 * bnd d (m / 3)))
theorem bnd_pos (d m : Nat) : 1 ≤ bnd d m := by
  cases d with
  | zero => exact Nat.le_refl _
  | succ d => rw [bnd]; split <;> omega
theorem bnd_top : bnd 9 90 ≤ 900 := by decide +kernel
theorem lval_loop {rec_ : Int → Int → Int → Int → Res D} {k2 : List D → Res D} {cell k dp m c : Int} {P : D → Prop} (hc : CDivW m (max 1 c)) (h : ∀ j, ∃ d, rec_ cell (5 * k + j + 1) (dp - 1) (m / max 1 c) = .ok d ∧ P d) : ∀ (js : List Int) (acc : List D), acc.length + js.length ≤ 1000 → (∀ d ∈ acc, P d) → ∃ ds, m_u_law_value_l2 cell k dp m c rec_ k2 js acc = k2 ds ∧ ds.length = acc.length + js.length ∧ ∀ d ∈ ds, P d
  | [], acc, _, ha => ⟨acc, by rw [m_u_law_value_l2], rfl, ha⟩
  | j :: r, acc, hl, ha => by
    obtain ⟨d, e, pd⟩ := h j
    rw [List.length_cons] at hl
    obtain ⟨ds, e2, l2, p2⟩ := lval_loop (k2 := k2) hc h r (acc ++ [d]) (by rw [List.length_append, List.length_singleton]; omega) (fun z hz => by
      rcases List.mem_append.mp hz with hz | hz
      · exact ha z hz
      · cases List.mem_singleton.mp hz; exact pd)
    refine ⟨ds, ?_, by rw [l2, List.length_append, List.length_singleton, List.length_cons]; omega, p2⟩
    rw [m_u_law_value_l2, Res.need_pos hc]
    simp only [Res.bind_ok]
    rw [e, Res.bind_ok, Res.need_pos (by omega)]
    exact e2
theorem partDs_le {ds : List D} {n : Nat} (h : ∀ d ∈ ds, partD d ≤ n) : partDs ds ≤ ds.length * n := by
  induction ds with
  | nil => exact Nat.zero_le _
  | cons x r ih =>
    have := h x List.mem_cons_self
    have := ih fun z hz => h z (List.mem_cons_of_mem _ hz)
    show partD x + partDs r ≤ (r.length + 1) * n
    rw [Nat.add_mul]; omega
theorem lval_ok : ∀ (f dp m : Nat) (cell k : Int), dp < f → m ≤ 1000 → ∃ d, m_u_law_value f cell k (dp : Int) (m : Int) = .ok d ∧ Td dp d ∧ Nar d ∧ partD d ≤ bnd dp m
  | 0, _, _, _, _, h, _ => absurd h (Nat.not_lt_zero _)
  | f + 1, dp, m, cell, k, h, hm => by
    obtain ⟨draw, ed, d0⟩ := twice_ok cell (k := k)
    show ∃ d, m_u_law_value_b (m_u_law_value f) cell k (dp : Int) (m : Int) = _ ∧ _
    unfold m_u_law_value_b
    rw [ed, Res.bind_ok]
    have leaf : ∃ d : D, ((((idx ([(1 : Int), (7 : Int), (8 : Int), (15 : Int), (64 : Int), (520 : Int)] : List Int) ((draw / (3 : Int)) % (6 : Int))).bind fun (t : Int) => Res.need (CShl (1 : Int) t) (Res.ok ((1 : Int) * 2 ^ t.toNat))).bind fun (t : Int) => Res.need (0 < t) (Res.ok (((Int.natAbs cell : Int) + draw) % t))).bind fun (x : Int) => Res.ok (toD x)) = .ok d ∧ Td dp d ∧ Nar d ∧ partD d ≤ bnd dp m := by
      have i : ∃ b : Nat, b ≤ 520 ∧ idx ([(1 : Int), (7 : Int), (8 : Int), (15 : Int), (64 : Int), (520 : Int)] : List Int) ((draw / (3 : Int)) % (6 : Int)) = .ok (b : Int) := by
        have h0 := Int.emod_nonneg (draw / 3) (show (6 : Int) ≠ 0 by decide)
        have h1 := Int.emod_lt_of_pos (draw / 3) (show (0 : Int) < 6 by decide)
        generalize draw / 3 % 6 = i at *
        rcases (show i = 0 ∨ i = 1 ∨ i = 2 ∨ i = 3 ∨ i = 4 ∨ i = 5 by omega) with rfl | rfl | rfl | rfl | rfl | rfl
        · exact ⟨1, by decide, rfl⟩
        · exact ⟨7, by decide, rfl⟩
        · exact ⟨8, by decide, rfl⟩
        · exact ⟨15, by decide, rfl⟩
        · exact ⟨64, by decide, rfl⟩
        · exact ⟨520, by decide, rfl⟩
      obtain ⟨b, hb, i⟩ := i
      obtain ⟨q, eq, _, _, q0, ql⟩ := p520
      have p : (0 : Int) < 2 ^ b := Int.pow_pos (by decide)
      have a0 := Int.emod_nonneg ((cell.natAbs : Int) + draw) (Int.ne_of_gt p)
      have a1 := Int.emod_lt_of_pos ((cell.natAbs : Int) + draw) p
      have a2 := ql b hb
      rw [i, Res.bind_ok, Res.need_pos (cshl' (by omega)), Res.bind_ok, Int.toNat_natCast, Int.one_mul, Res.need_pos p, Res.bind_ok]
      exact ⟨_, rfl, .num a0 (bits520 a0 (by rw [← eq]; omega)), .num, bnd_pos dp m⟩
    by_cases z : (dp : Int) = 0
    · rw [decide_eq_true z, cond_true, Res.bind_ok, cond_true]; exact leaf
    rw [decide_eq_false z, cond_false]
    by_cases y : draw % 3 = 0
    · rw [decide_eq_true y, cond_true, Res.bind_ok, cond_true]; exact leaf
    rw [decide_eq_false y, cond_false, Res.bind_ok]
    by_cases w : (m : Int) ≤ 1
    · rw [decide_eq_true w, cond_true]; exact leaf
    rw [decide_eq_false w, cond_false, Res.bind_ok, Res.bind_ok]
    obtain ⟨e, rfl⟩ : ∃ e, dp = e + 1 := ⟨dp - 1, by omega⟩
    obtain ⟨c, hc⟩ := Int.eq_ofNat_of_zero_le (show 0 ≤ draw / 30 % 4 by omega)
    have c3 : c ≤ 3 := by omega
    rw [hc, Res.need_pos ⟨by omega, by omega⟩, Res.bind_ok]
    have dv : CDivW (m : Int) (max 1 (c : Int)) := ⟨by omega, by
      have : c = 0 ∨ c = 1 ∨ c = 2 ∨ c = 3 := by omega
      rcases this with rfl | rfl | rfl | rfl <;> decide⟩
    have mx : max (1 : Int) (c : Int) = ((max 1 c : Nat) : Int) := by omega
    have kids : ∀ j : Int, ∃ d, m_u_law_value f cell (5 * k + j + 1) (((e + 1 : Nat) : Int) - 1) ((m : Int) / max 1 (c : Int)) = .ok d ∧ (Td e d ∧ Nar d ∧ partD d ≤ bnd e (m / max 1 c)) := fun j => by
      obtain ⟨d, e1, e2, e3, e4⟩ := lval_ok f e (m / max 1 c) cell (5 * k + j + 1) (by omega) (Nat.le_trans (Nat.div_le_self _ _) hm)
      refine ⟨d, ?_, e2, e3, e4⟩
      rw [mx, show ((e + 1 : Nat) : Int) - 1 = (e : Int) by omega, ← Int.natCast_ediv]
      exact e1
    have rl : (pyRange 0 (c : Int)).length = c := by rw [pyRange_len]; omega
    obtain ⟨ds, e2, l2, p2⟩ := lval_loop (k2 := m_u_law_value_k3) dv kids (pyRange 0 (c : Int)) [] (by rw [rl]; show 0 + c ≤ 1000; omega) (fun _ h => nomatch h)
    rw [e2]
    rw [rl] at l2
    have l2 : ds.length = c := by rw [l2]; show 0 + c = c; omega
    have pb := partDs_le (ds := ds) (n := bnd e (m / max 1 c)) fun d hd => (p2 d hd).2.2
    refine ⟨D.tup ds, ?_, .tup (by omega) (fun d hd => (p2 d hd).1), .tup (by omega) (fun d hd => (p2 d hd).2.1), ?_⟩
    · unfold m_u_law_value_k3
      rw [tup_tu]
    · show 1 + partDs ds ≤ bnd (e + 1) m
      rw [bnd, if_neg (by omega)]
      rw [l2] at pb
      have : c = 0 ∨ c = 1 ∨ c = 2 ∨ c = 3 := by omega
      rcases this with rfl | rfl | rfl | rfl
      · omega
      · rw [show max 1 1 = 1 from rfl, Nat.div_one] at pb; omega
      · rw [show max 1 2 = 2 from rfl] at pb; omega
      · rw [show max 1 3 = 3 from rfl] at pb; omega

/-! ### k31: what is told, and the law -/
theorem wnum_bad {n : Int} (h : n < 0 ∨ 520 < Builtin.Int.intBits n) : m_write_number n = .exc "OutOfRange" := by
  unfold m_write_number
  by_cases a : n < 0
  · rw [decide_eq_true a]; rfl
  · rw [decide_eq_false a, cond_false, Res.bind_ok, decide_eq_true (by omega)]; rfl
theorem wpair_gen (r s : Int) : m_write_pair r s = m_u_tree_part 12 (D.tup [D.int r, D.int s]) := by
  have e1 : m_u_levels 12 (D.tup [D.int r, D.int s]) = .ok 1 := by
    show m_u_levels_b (m_u_levels 11) (D.tup [D.int r, D.int s]) = _
    have all := cl_map (f := m_u_levels 11) (g := fun _ => (0 : Int)) (xs := [D.int r, D.int s]) fun x hx => by
      rcases List.mem_cons.mp hx with rfl | hx
      · exact lv_int 10 r
      · cases List.mem_singleton.mp hx; exact lv_int 10 s
    unfold m_u_levels_b
    rw [Res.need_pos (by rfl)]
    simp only [Res.bind_ok, it_tup, Bool.not_true, cond_false, asTu_tup, Res.need_pos (show [D.int r, D.int s].length ≤ 16777216 by show 2 ≤ 16777216; decide), all]
    rfl
  have e2 : m_u_part_count 12 (D.tup [D.int r, D.int s]) = .ok 3 := by
    show m_u_part_count_b (m_u_part_count 11) (D.tup [D.int r, D.int s]) = _
    have all := cl_map (f := m_u_part_count 11) (g := fun _ => (1 : Int)) (xs := [D.int r, D.int s]) fun x hx => by
      rcases List.mem_cons.mp hx with rfl | hx
      · exact pc_int 10 r
      · cases List.mem_singleton.mp hx; exact pc_int 10 s
    unfold m_u_part_count_b
    rw [Res.need_pos (by rfl)]
    simp only [Res.bind_ok, it_tup, Bool.not_true, cond_false, asTu_tup, Res.need_pos (show [D.int r, D.int s].length ≤ 16777216 by show 2 ≤ 16777216; decide), all]
    rfl
  unfold m_write_pair m_write_tree
  show (((m_u_levels 12 (D.tup [D.int r, D.int s])).bind _).bind _).bind _ = _
  rw [e1, Res.bind_ok, Res.bind_ok, show decide ((8 : Int) < 1) = false from rfl, cond_false]
  show (((m_u_part_count 12 (D.tup [D.int r, D.int s])).bind _)).bind _ = _
  rw [e2, Res.bind_ok, Res.bind_ok, show decide ((64 : Int) < 3) = false from rfl, cond_false]
  rfl
theorem td_two {r s : Int} (r0 : 0 ≤ r) (r1 : Builtin.Int.intBits r ≤ 520) (s0 : 0 ≤ s) (s1 : Builtin.Int.intBits s ≤ 520) : Td 1 (D.tup [D.int r, D.int s]) := .tup (by show 2 ≤ 60000; decide) fun d hd => by
  rcases List.mem_cons.mp hd with rfl | hd
  · exact .num r0 r1
  · cases List.mem_singleton.mp hd; exact .num s0 s1
theorem form_two (r s : Int) : formD (D.tup [D.int r, D.int s]) = pairF r s := by
  show encF 48 (numF r ++ (numF s ++ [])) = _
  rw [List.append_nil]; rfl
theorem wpair2_ok {r s : Int} (r0 : 0 ≤ r) (r1 : Builtin.Int.intBits r ≤ 520) (s0 : 0 ≤ s) (s1 : Builtin.Int.intBits s ≤ 520) : m_write_pair r s = .ok (pairF r s) := by
  have l := pairF_len r1 s1
  rw [wpair_gen, tpart_ok 12 1 _ (by decide) (td_two r0 r1 s0 s1) (by rw [form_two]; omega), form_two]
theorem wpair_bad {r s : Int} (h : r < 0 ∨ (0 ≤ r ∧ Builtin.Int.intBits r ≤ 520 ∧ 520 < Builtin.Int.intBits s)) : m_write_pair r s = .exc "OutOfRange" := by
  rw [wpair_gen]
  show m_u_tree_part_b (m_u_tree_part 11) (D.tup [D.int r, D.int s]) = _
  have c : compL2G (fun x => m_u_tree_part 11 x) (fun (_ : D) (y : Int) => y) [D.int r, D.int s] [] = .exc "OutOfRange" := by
    unfold compL2G
    rw [tp_int 10 r]
    rcases h with h | ⟨a, b, h⟩
    · rw [wnum_bad (.inl h)]; rfl
    · have := numF_len b
      rw [wnum_ok a b, Res.bind_ok, Res.need_pos (by show 0 + _ ≤ _; omega)]
      unfold compL2G
      rw [tp_int 10 s, wnum_bad (.inr h)]; rfl
  unfold m_u_tree_part_b
  rw [Res.need_pos (by rfl)]
  simp only [Res.bind_ok, it_tup, Bool.not_true, cond_false, asTu_tup, c]
  rfl
abbrev sF : T2 Str D := T2.mk "refused" (toD ("form" : Str))
abbrev sR : T2 Str D := T2.mk "refused" (toD ("range" : Str))
abbrev sT (d : D) : T2 Str D := T2.mk "told" d
theorem t0_ok {d : D} {l : List Int} (h : m_write_tree d = .ok l) : m_u_law_told 0 d = .ok (sT (toD l)) := by
  have e : m_u_law_call 0 d = .ok (sT (toD l)) := by
    show (((((m_write_tree d).bind _).bind _).bind _).bind _) = _
    rw [h]; rfl
  unfold m_u_law_told; rw [e]; rfl
theorem t0_r {d : D} (h : m_write_tree d = .exc "OutOfRange") : m_u_law_told 0 d = .ok sR := by
  have e : m_u_law_call 0 d = .exc "OutOfRange" := by
    show (((((m_write_tree d).bind _).bind _).bind _).bind _) = _
    rw [h]; rfl
  unfold m_u_law_told; rw [e]; rfl
theorem t1_ok {x d : D} (h : m_read_tree x = .ok d) : m_u_law_told 1 x = .ok (sT d) := by
  have e : m_u_law_call 1 x = .ok (sT d) := by
    show ((((m_read_tree x).bind _).bind _).bind _) = _
    rw [h]; rfl
  unfold m_u_law_told; rw [e]; rfl
theorem t1_f {x : D} (h : m_read_tree x = .exc "Malformed") : m_u_law_told 1 x = .ok sF := by
  have e : m_u_law_call 1 x = .exc "Malformed" := by
    show ((((m_read_tree x).bind _).bind _).bind _) = _
    rw [h]; rfl
  unfold m_u_law_told; rw [e]; rfl
theorem c2 (r s : Int) : m_u_law_call 2 (D.tup [D.int r, D.int s]) = (m_write_pair r s).bind fun x => .ok (sT (toD x)) := by
  show (((((m_write_pair r s).bind _).bind _).bind _).bind _) = _
  cases m_write_pair r s <;> rfl
theorem t2_ok {r s : Int} {l : List Int} (h : m_write_pair r s = .ok l) : m_u_law_told 2 (D.tup [D.int r, D.int s]) = .ok (sT (toD l)) := by
  unfold m_u_law_told; rw [c2, h]; rfl
theorem t2_r {r s : Int} (h : m_write_pair r s = .exc "OutOfRange") : m_u_law_told 2 (D.tup [D.int r, D.int s]) = .ok sR := by
  unfold m_u_law_told; rw [c2, h]; rfl
theorem c3 (x : List Int) : m_u_law_call 3 (toD x) = (m_read_pair x).bind fun p => .ok (sT (toD p)) := by
  show ((((((((D.asInts (toD x)).bind _).bind _)).bind _).bind _).bind _).bind _) = _
  rw [asInts_toD]
  show (((((m_read_pair x).bind _).bind _).bind _).bind _) = _
  cases m_read_pair x <;> rfl
theorem t3_ok {x : List Int} {p : T2 Int Int} (h : m_read_pair x = .ok p) : m_u_law_told 3 (toD x) = .ok (sT (toD p)) := by
  unfold m_u_law_told; rw [c3, h]; rfl
theorem t3_f {x : List Int} (h : m_read_pair x = .exc "Malformed") : m_u_law_told 3 (toD x) = .ok sF := by
  unfold m_u_law_told; rw [c3, h]; rfl
theorem td_q : ∀ {k : Nat} {d : D}, Td k d → d.flat = true ∧ d.py.canLay0 = true ∧ d.py.depth ≤ k ∧ d.nob = true := by
  intro k d h
  induction h with
  | num v0 v1 => exact ⟨rfl, rfl, Nat.zero_le _, rfl⟩
  | @tup k ds l a ih =>
    have all : ∀ xs : List D, (∀ d ∈ xs, d.flat = true ∧ d.py.canLay0 = true ∧ d.py.depth ≤ k ∧ d.nob = true) → flatL xs = true ∧ PyData.canLayAll0 (pyL xs) = true ∧ PyData.depthAll (pyL xs) ≤ k ∧ nobL xs = true := by
      intro xs
      induction xs with
      | nil => intro _; exact ⟨rfl, rfl, Nat.zero_le _, rfl⟩
      | cons x r ihr =>
        intro h
        obtain ⟨a1, a2, a3, a4⟩ := h x List.mem_cons_self
        obtain ⟨b1, b2, b3, b4⟩ := ihr fun z hz => h z (List.mem_cons_of_mem _ hz)
        refine ⟨?_, ?_, ?_, ?_⟩
        · show (x.flat && flatL r) = true
          rw [a1, b1]; rfl
        · show (PyData.canLay0 x.py && PyData.canLayAll0 (pyL r)) = true
          rw [a2, b2]; rfl
        · show max (PyData.depth x.py) (PyData.depthAll (pyL r)) ≤ k
          omega
        · show (x.nob && nobL r) = true
          rw [a4, b4]; rfl
    obtain ⟨c1, c2, c3, c4⟩ := all ds ih
    exact ⟨c1, c2, Nat.succ_le_succ c3, c4⟩
theorem okq_T {s : Str} {d : D} (a : d.flat = true) (b : d.py.canLay0 = true) (c : d.py.depth ≤ 20) (e : (D.str s).flat = true ∧ (D.str s).py.canLay0 = true ∧ (D.str s).py.depth = 0) : (D.tup [D.str s, d]).okq = true := by
  show (((D.str s).flat && (d.flat && true)) && (((D.str s).py.canLay0 && (d.py.canLay0 && true)) && decide (max (D.str s).py.depth (max d.py.depth 0) + 1 ≤ 64))) = true
  rw [e.1, e.2.1, a, b, decide_eq_true (by omega)]; rfl
theorem str_q : (D.str ("told" : Str)).flat = true ∧ (D.str ("told" : Str)).py.canLay0 = true ∧ (D.str ("told" : Str)).py.depth = 0 := by decide +kernel
theorem okq_td {k : Nat} {d : D} (h : Td k d) (hk : k ≤ 20) : (D.tup [D.str ("told" : Str), d]).okq = true := by
  obtain ⟨a, b, c, _⟩ := td_q h
  exact okq_T a b (by omega) str_q
theorem okq_li (l : List Int) : (D.tup [D.str ("told" : Str), toD l]).okq = true := okq_T (flat_ints l) (lay_ints l) (by show PyData.depthAll (pyL (l.map D.int)) + 1 ≤ 20; rw [dep_ints]; decide) str_q
theorem eq_td {k : Nat} {d : D} (h : Td k d) (s : Str) : pyEq (D.tup [D.str s, d]) (D.tup [D.str s, d]) = true := pyEq_self (by
  obtain ⟨_, _, _, a⟩ := td_q h
  show (true && (d.nob && true)) = true
  rw [a]; rfl)
theorem eq_li (l : List Int) (s : Str) : pyEq (D.tup [D.str s, toD l]) (D.tup [D.str s, toD l]) = true := pyEq_self (by
  show (true && (nobL (l.map D.int) && true)) = true
  rw [nob_ints]; rfl)
theorem sF_q : (toD sF).okq = true ∧ (toD (T2.mk ("refused" : Str) ("form" : Str))).okq = true ∧ pyEq (toD sF) (toD (T2.mk ("refused" : Str) ("form" : Str))) = true := by decide +kernel
theorem sR_q : (toD sR).okq = true ∧ (toD (T2.mk ("refused" : Str) ("range" : Str))).okq = true ∧ pyEq (toD sR) (toD (T2.mk ("refused" : Str) ("range" : Str))) = true := by decide +kernel
/-- what is written and one byte more is refused -/
theorem more_f {k : Nat} {d : D} (td : Td k d) (hl : (formD d).length ≤ 40000) {b : Int} (b0 : 0 ≤ b) (b1 : b ≤ 255) : m_read_tree (toD (formD d ++ [b])) = .exc "Malformed" := by
  have hb := byt_app (formD_byt td (by omega)) (ys := [b]) fun x hx => by cases List.mem_singleton.mp hx; exact ⟨b0, b1⟩
  rcases rt_inv hb (by rw [List.length_append, List.length_singleton]; omega) with e | ⟨y, _, ty, _, fy⟩
  · exact e
  · exfalso
    have l1 := congrArg List.length fy
    rw [List.length_append, List.length_singleton] at l1
    rw [form_tc ty, form_tc td] at fy
    have a1 := encF_len (tagD y) (conD y)
    have a2 := encF_len (tagD d) (conD d)
    rw [← form_tc ty] at a1
    rw [← form_tc td] at a2
    obtain ⟨_, _, e⟩ := encF_inj (c := conD y) (e := conD d) (p := []) (q := [b]) (by omega) (by omega) (by rw [List.append_nil]; exact fy)
    cases e

theorem wide_loop {k1 : D → Res D} : ∀ (xs : List Int) (d : D) (k : Nat), Td k d → Nar d → ∃ e, m_u_law_wide_l1 k1 xs d = k1 e ∧ Td (k + xs.length) e ∧ Nar e ∧ partD e = partD d + xs.length
  | [], d, k, td, nr => ⟨d, by rw [m_u_law_wide_l1], td, nr, rfl⟩
  | x :: r, d, k, td, nr => by
    have t2 : Td (k + 1) (D.tup [d]) := .tup (by show 1 ≤ 60000; decide) fun z hz => by cases List.mem_singleton.mp hz; exact td
    have n2 : Nar (D.tup [d]) := .tup (by show 1 ≤ 100; decide) fun z hz => by cases List.mem_singleton.mp hz; exact nr
    obtain ⟨e, e1, e2, e3, e4⟩ := wide_loop (k1 := k1) r (D.tup [d]) (k + 1) t2 n2
    refine ⟨e, by rw [m_u_law_wide_l1]; exact e1, by rw [List.length_cons, show k + (r.length + 1) = k + 1 + r.length by omega]; exact e2, e3, ?_⟩
    rw [e4, List.length_cons]
    show 1 + (partD d + 0) + r.length = _
    omega
theorem wide_ok {c : Int} (hc : 0 ≤ c) : ∃ d, m_u_law_wide c = .ok d ∧ Td 11 d ∧ Nar d ∧ partD d ≤ 900 := by
  obtain ⟨n, hn⟩ := Int.eq_ofNat_of_zero_le (show 0 ≤ c / 300 % 70 by omega)
  obtain ⟨m, hm⟩ := Int.eq_ofNat_of_zero_le (show 0 ≤ c / 21000 % 10 by omega)
  have x0 : 0 ≤ c % 300 := by omega
  have x1 : Builtin.Int.intBits (c % 300) ≤ 520 := bits520 x0 (by
    have : (300 : Int) < 2 ^ 520 := by decide +kernel
    omega)
  have fl : (List.replicate n [c % 300]).flatten = List.replicate n (c % 300) := by
    induction n with
    | zero => rfl
    | succ n ih => exact List.flatten_replicate_singleton
  have base : Td 1 (D.tup (List.replicate n (D.int (c % 300)))) := .tup (by rw [List.length_replicate]; omega) fun d hd => by
    rw [(List.mem_replicate.mp hd).2]; exact .num x0 x1
  have nb : Nar (D.tup (List.replicate n (D.int (c % 300)))) := .tup (by rw [List.length_replicate]; omega) fun d hd => by
    rw [(List.mem_replicate.mp hd).2]; exact .num
  have pb : partD (D.tup (List.replicate n (D.int (c % 300)))) ≤ 1 + n := by
    have := partDs_le (ds := List.replicate n (D.int (c % 300))) (n := 1) fun d hd => by
      rw [(List.mem_replicate.mp hd).2]; exact Nat.le_refl _
    rw [List.length_replicate] at this
    show 1 + partDs _ ≤ 1 + n
    omega
  have rl : (pyRange 0 (m : Int)).length = m := by rw [pyRange_len]; omega
  obtain ⟨e, e1, e2, e3, e4⟩ := wide_loop (k1 := m_u_law_wide_k2) (pyRange 0 (m : Int)) _ 1 base nb
  rw [rl] at e2 e4
  refine ⟨e, ?_, td_mono e2 (by omega), e3, by rw [e4]; omega⟩
  unfold m_u_law_wide
  rw [hn, hm, Res.need_pos ⟨(fun h => nomatch h), by omega, by omega, by show 1 ≤ 1000; decide⟩, Int.toNat_natCast]
  rw [Res.bind_ok, Res.bind_ok, Res.need_pos ⟨by omega, by omega⟩, Res.bind_ok]
  show m_u_law_wide_l1 m_u_law_wide_k2 (pyRange 0 (m : Int)) (D.tup (((List.replicate n [c % 300]).flatten).map D.int)) = _
  rw [fl, List.map_replicate, e1]
  rfl
theorem cpre (xs : List Int) (k : Nat) : cutL xs none (some (k : Int)) = xs.take k := by
  unfold cutL
  rw [HT.sIx_none, HT.sIx_nat, List.drop_zero, Nat.sub_zero]
  by_cases c : k ≤ xs.length
  · rw [Nat.min_eq_left c]
  · rw [Nat.min_eq_right (by omega), List.take_of_length_le (by omega), List.take_of_length_le (by omega)]
theorem csuf (xs : List Int) (k : Nat) : cutL xs (some (k : Int)) none = xs.drop k := by
  unfold cutL
  rw [HT.sIx_none, HT.sIx_nat]
  by_cases c : k ≤ xs.length
  · rw [Nat.min_eq_left c, List.take_of_length_le (by rw [List.length_drop]; omega)]
  · rw [Nat.min_eq_right (by omega), List.drop_length, List.drop_eq_nil_of_le (by omega), List.take_nil]
theorem take_byt' {d : List Int} (h : Byt d) (k : Nat) : Byt (d.take k) := fun x hx => h x (List.mem_of_mem_take hx)
theorem drop_byt' {d : List Int} (h : Byt d) (k : Nat) : Byt (d.drop k) := fun x hx => h x (List.mem_of_mem_drop hx)
theorem near_ok {form : List Int} (hb : Byt form) (hl : form.length ≤ 30000) (h1 : 1 ≤ form.length) {c : Int} (hc : 0 ≤ c) : ∃ near, m_u_law_near form c = .ok near ∧ Byt near ∧ near.length ≤ 40000 := by
  have pl : (0 : Int) < (form.length : Int) := by omega
  have a0 := Int.emod_nonneg (c / 5) (Int.ne_of_gt pl)
  have a1 := Int.emod_lt_of_pos (c / 5) pl
  unfold m_u_law_near
  rw [Res.bind_ok, Res.need_pos pl, Res.bind_ok, Res.bind_ok]
  obtain ⟨j, hj⟩ := Int.eq_ofNat_of_zero_le a0
  rw [hj] at a1 ⊢
  have xb : Byt [c / 4000 % 256] := fun d hd => by cases List.mem_singleton.mp hd; omega
  have k3 : ∀ data : List Int, Byt data → data.length ≤ 30002 → ∃ near, m_u_law_near_k3 c data = .ok near ∧ Byt near ∧ near.length ≤ 40000 := by
    intro data hd hl2
    unfold m_u_law_near_k3 m_u_law_near_k4
    rw [Res.bind_ok]
    by_cases z : c % 5 = 3
    · have iv : ∃ x, idx ([(0 : Int), 2, 48] : List Int) (c / 4000 % 3) = .ok x ∧ 0 ≤ x ∧ x ≤ 255 := by
        have h0 := Int.emod_nonneg (c / 4000) (show (3 : Int) ≠ 0 by decide)
        have h1 := Int.emod_lt_of_pos (c / 4000) (show (0 : Int) < 3 by decide)
        generalize c / 4000 % 3 = i at *
        rcases (show i = 0 ∨ i = 1 ∨ i = 2 by omega) with rfl | rfl | rfl <;> exact ⟨_, rfl, by decide, by decide⟩
      obtain ⟨x, ix, x0, x1⟩ := iv
      have yb : Byt [x] := fun d hd => by cases List.mem_singleton.mp hd; omega
      rw [decide_eq_true z, cond_true, ix]
      simp only [Res.bind_ok]
      rw [Res.need_pos (by rw [List.length_singleton]; omega), Res.bind_ok]
      exact ⟨_, rfl, byt_app hd yb, by rw [List.length_append, List.length_singleton]; omega⟩
    · rw [decide_eq_false z, cond_false]
      exact ⟨_, rfl, hd, by omega⟩
  have k2 : ∀ data : List Int, Byt data → data.length ≤ 30001 → ∃ near, m_u_law_near_k2 c (j : Int) data = .ok near ∧ Byt near ∧ near.length ≤ 40000 := by
    intro data hd hl2
    unfold m_u_law_near_k2
    rw [Res.bind_ok]
    by_cases z : c % 5 = 2
    · have lt : (data.take j).length + (data.drop j).length = data.length := by rw [← List.length_append, List.take_append_drop]
      rw [decide_eq_true z, cond_true]
      simp only [Res.bind_ok, cpre, csuf]
      rw [Res.need_pos (by rw [List.length_singleton]; omega), Res.bind_ok, Res.need_pos (by rw [List.length_append, List.length_singleton]; omega), Res.bind_ok]
      exact k3 _ (byt_app (byt_app (take_byt' hd j) xb) (drop_byt' hd j)) (by simp only [List.length_append, List.length_singleton]; omega)
    · rw [decide_eq_false z, cond_false]
      exact k3 _ hd (by omega)
  have k1 : ∀ data : List Int, Byt data → data.length ≤ 30000 → ∃ near, m_u_law_near_k1 c (j : Int) data = .ok near ∧ Byt near ∧ near.length ≤ 40000 := by
    intro data hd hl2
    unfold m_u_law_near_k1
    rw [Res.bind_ok]
    by_cases z : c % 5 = 1
    · rw [decide_eq_true z, cond_true, show (j : Int) + 1 = ((j + 1 : Nat) : Int) by omega]
      simp only [Res.bind_ok, cpre, csuf]
      have l2 : (data.drop (j + 1)).length = data.length - (j + 1) := List.length_drop ..
      have l3 : (data.take j).length = min j data.length := List.length_take ..
      rw [Res.need_pos (by omega), Res.bind_ok]
      exact k2 _ (byt_app (take_byt' hd j) (drop_byt' hd (j + 1))) (by rw [List.length_append]; omega)
    · rw [decide_eq_false z, cond_false]
      exact k2 _ hd (by omega)
  by_cases z : c % 5 = 0
  · rw [decide_eq_true z, cond_true, Res.bind_ok, Res.bind_ok]
    have ix : ixN form.length (j : Int) = some j := by
      unfold ixN
      rw [if_pos (by omega), if_pos (by omega)]
      simp
    rw [ix]
    dsimp only
    unfold m_u_law_near_k5
    refine k1 _ (fun d hd => ?_) (by rw [List.length_set]; omega)
    rcases List.mem_or_eq_of_mem_set hd with hd | hd
    · exact hb d hd
    · rw [hd]; omega
  · rw [decide_eq_false z, cond_false]
    exact k1 _ hb (by omega)
theorem right_f (w : Int) (near : List Int) : m_u_law_right w sF near = .ok true := by
  have q : (toD (sF.b)).okq = true ∧ (toD ("form" : Str)).okq = true ∧ pyEq (toD sF.b) (toD ("form" : Str)) = true := by decide +kernel
  have a : (sF.a == ("refused" : Str)) = true := by decide +kernel
  unfold m_u_law_right
  rw [Res.bind_ok, a, cond_true, Res.need_pos ⟨q.1, q.2.1⟩, q.2.2]
theorem right_t {w : Int} {d : D} {near : List Int} (td : Td 8 d) (hp : partD d ≤ 64) (hf : formD d = near) (hw : w = 1 ∨ ∃ r s, d = D.tup [D.int r, D.int s]) : m_u_law_right w (sT d) near = .ok true := by
  have a : ((sT d).a == ("refused" : Str)) = false := (by decide +kernel : (("told" : Str) == ("refused" : Str)) = false)
  have hl := formD_len td
  have dl := td_lv td
  unfold m_u_law_right
  rw [Res.bind_ok, a, cond_false, Res.bind_ok]
  show ((((m_u_law_fits 12 d).bind _).bind _).bind _) = _
  rw [lfits_ok 12 8 d (by decide) td, Res.bind_ok, Res.bind_ok, Bool.not_true, cond_false]
  show ((((m_u_law_deep 12 d).bind _).bind _).bind _) = _
  rw [ldeep_ok 12 8 d (by decide) td, Res.bind_ok, Res.bind_ok, decide_eq_false (by omega), cond_false]
  show ((((m_u_law_parts 12 d).bind _).bind _).bind _) = _
  rw [lparts_ok 12 8 d (by decide) td, Res.bind_ok, Res.bind_ok, decide_eq_false (by omega), cond_false]
  show ((((m_u_law_tree 12 d).bind _)).bind _) = _
  rw [ltreeD_ok 12 8 d (by decide) td (by omega), Res.bind_ok, hf, Res.need_pos ⟨okq_ints _, okq_ints _⟩, Res.bind_ok, pyEq_ints, decide_eq_true rfl, Bool.not_true, cond_false]
  rcases hw with rfl | ⟨r, s, rfl⟩
  · rfl
  · by_cases w1 : w = 1
    · rw [decide_eq_true w1]; rfl
    · rw [decide_eq_false w1, cond_false, Res.need_pos (by rfl)]
      rfl

theorem near_steps {near : List Int} (hb : Byt near) (hl : near.length ≤ 40000) (k7 : Unit → Res Bool) : m_law_l7 near k7 [1, 3] () = k7 () := by
  have one : ∃ f, m_u_law_told 1 (toD near) = .ok f ∧ m_u_law_right 1 f near = .ok true := by
    rcases rt_inv hb (by omega) with e | ⟨d, e, td, hp, hf⟩
    · exact ⟨sF, t1_f e, right_f 1 near⟩
    · exact ⟨sT d, t1_ok e, right_t td hp hf (.inl rfl)⟩
  have three : ∃ f, m_u_law_told 3 (toD near) = .ok f ∧ m_u_law_right 3 f near = .ok true := by
    rcases rp_inv hb (by omega) with e | ⟨r, s, e, r0, s0, r1, s1, ed⟩
    · exact ⟨sF, t3_f e, right_f 3 near⟩
    · refine ⟨sT (toD (T2.mk r s)), t3_ok e, right_t (td_mono (td_two r0 r1 s0 s1) (by decide)) (by show 3 ≤ 64; decide) ?_ (.inr ⟨r, s, rfl⟩)⟩
      rw [ed]; exact form_two r s
  obtain ⟨f, e1, e2⟩ := one
  obtain ⟨g, e3, e4⟩ := three
  rw [m_law_l7]
  simp only [e1, e2, Res.bind_ok, Bool.not_true, cond_false]
  rw [m_law_l7]
  simp only [e3, e4, Res.bind_ok, Bool.not_true, cond_false]
  rw [m_law_l7]
theorem bad_step {x : List Int} (h : m_read_pair x = .exc "Malformed") (k : Unit → Res Bool) (r : List (List Int)) : m_law_l10 k (x :: r) () = m_law_l10 k r () := by
  rw [m_law_l10]
  dsimp only
  rw [t3_f h, Res.bind_ok, Res.need_pos ⟨sF_q.1, sF_q.2.1⟩, Res.bind_ok, sF_q.2.2]
  rfl
theorem pair_no {x : List Int} (hb : Byt x) (hl : x.length ≤ 50000) (h : ∀ r s, 0 ≤ r → 0 ≤ s → Builtin.Int.intBits r ≤ 520 → Builtin.Int.intBits s ≤ 520 → x ≠ pairF r s) : m_read_pair x = .exc "Malformed" := by
  rcases rp_inv hb hl with e | ⟨r, s, _, r0, s0, r1, s1, ed⟩
  · exact e
  · exact absurd ed (h r s r0 s0 r1 s1)
theorem con_le (v : Int) (h : Builtin.Int.intBits v ≤ 520) : (conF v).length ≤ 65535 := by rw [conF_len]; omega
theorem numF_cut {a b : Int} {p q : List Int} (ha : Builtin.Int.intBits a ≤ 520) (hb : Builtin.Int.intBits b ≤ 520) (h : numF a ++ p = numF b ++ q) : p = q := (encF_inj (con_le a ha) (con_le b hb) h).2.2
theorem k11_ok {a b : Int} (b0 : 0 ≤ b) (g : Unit → Res Bool) : m_law_k11 (T2.mk a b) g () = g () := by
  obtain ⟨m, em, cs, e, m0, _⟩ := p520
  have one : Builtin.Int.intBits (1 : Int) ≤ 520 := bits520 (by decide) (by decide +kernel)
  have t1 : m_u_law_told 2 (toD (T2.mk (-1 - b) (1 : Int))) = .ok sR := t2_r (wpair_bad (r := -1 - b) (s := 1) (.inl (by omega)))
  have t2 : m_u_law_told 2 (toD (T2.mk (1 : Int) m)) = .ok sR := t2_r (wpair_bad (r := 1) (s := m) (.inr ⟨by decide, one, Nat.lt_of_not_le fun z => by
    have := bits_lt2 (Int.le_of_lt m0) z
    rw [← em] at this; omega⟩))
  unfold m_law_k11
  dsimp only
  rw [t1, Res.bind_ok, Res.need_pos ⟨sR_q.1, sR_q.2.1⟩, Res.bind_ok, sR_q.2.2, Bool.not_true, cond_false, Res.need_pos cs, e]
  simp only [Res.bind_ok]
  rw [t2, Res.bind_ok, Res.need_pos ⟨sR_q.1, sR_q.2.1⟩, sR_q.2.2]
  rfl
theorem pairs_ok {a b : Int} (a0 : 0 ≤ a) (a1 : Builtin.Int.intBits a ≤ 520) (b0 : 0 ≤ b) (b1 : Builtin.Int.intBits b ≤ 520) (k : Unit → Res Bool) :
    m_law_l10 k [pairF a b ++ [0], pairF a b ++ [0]] () = k () ∧
    m_law_l10 k [encF 48 (numF a ++ (numF b ++ numF 1)), encF 48 (numF a), encF 48 (pairF a b ++ numF 1), numF 5, pairF a b ++ [0]] () = k () := by
  have one : Builtin.Int.intBits (1 : Int) ≤ 520 := bits520 (by decide) (by decide +kernel)
  have five : Builtin.Int.intBits (5 : Int) ≤ 520 := bits520 (by decide) (by decide +kernel)
  have la := numF_len a1
  have lb := numF_len b1
  have l1 := numF_len one
  have l5 := numF_len five
  have lp := pairF_len a1 b1
  have ba := numF_byt a1
  have bb := numF_byt b1
  have bp := pairF_byt a1 b1
  have bo := numF_byt one
  have z : Byt [0] := fun x hx => by cases List.mem_singleton.mp hx; exact ⟨by decide, by decide⟩
  have c1 : (numF a ++ (numF b ++ numF 1)).length ≤ 210 := by simp only [List.length_append]; omega
  have c3 : (pairF a b ++ numF 1).length ≤ 214 := by rw [List.length_append]; omega
  have e1 := encF_len 48 (numF a ++ (numF b ++ numF 1))
  have e2 := encF_len 48 (numF a)
  have e3 := encF_len 48 (pairF a b ++ numF 1)
  have two : ∀ r s : Int, Builtin.Int.intBits r ≤ 520 → Builtin.Int.intBits s ≤ 520 → (numF r ++ numF s).length ≤ 65535 := fun r s hr hs => by
    have := numF_len hr
    have := numF_len hs
    rw [List.length_append]; omega
  have numne : ∀ r : Int, numF r ≠ [] := fun r h => by cases h
  have cut : ∀ {c e : List Int}, c.length ≤ 65535 → e.length ≤ 65535 → encF 48 c = encF 48 e → c = e := fun {c e} hc he h => (encF_inj (p := []) (q := []) hc he (by rw [List.append_nil, List.append_nil]; exact h)).2.1
  have f1 : m_read_pair (encF 48 (numF a ++ (numF b ++ numF 1))) = .exc "Malformed" := pair_no (encF_byt (by decide) (by decide) (byt_app ba (byt_app bb bo)) (by omega)) (by omega) fun r s _ _ hr hs h => by
    have h := cut (by omega) (two r s hr hs) h
    have h := numF_cut a1 hr h
    have h := numF_cut (p := numF 1) (q := []) b1 hs (by rw [List.append_nil]; exact h)
    exact numne _ h
  have f2 : m_read_pair (encF 48 (numF a)) = .exc "Malformed" := pair_no (encF_byt (by decide) (by decide) ba (by omega)) (by omega) fun r s _ _ hr hs h => by
    have h := cut (by omega) (two r s hr hs) h
    have h := numF_cut (p := []) (q := numF s) a1 hr (by rw [List.append_nil]; exact h)
    exact numne _ h.symm
  have f3 : m_read_pair (encF 48 (pairF a b ++ numF 1)) = .exc "Malformed" := pair_no (encF_byt (by decide) (by decide) (byt_app bp bo) (by omega)) (by omega) fun r s _ _ hr hs h => by
    have h := cut (by omega) (two r s hr hs) h
    have h : (48 : Int) = 2 := (encF_inj (t := 48) (u := 2) (two a b a1 b1) (con_le r hr) h).1
    exact absurd h (by decide)
  have f4 : m_read_pair (numF 5) = .exc "Malformed" := pair_no (numF_byt five) (by omega) fun r s _ _ hr hs h => by
    have h : (2 : Int) = 48 := List.head_eq_of_cons_eq h
    exact absurd h (by decide)
  have f5 : m_read_pair (pairF a b ++ [0]) = .exc "Malformed" := pair_no (byt_app bp z) (by rw [List.length_append, List.length_singleton]; omega) fun r s _ _ hr hs h => by
    have h := (encF_inj (p := [0]) (q := []) (two a b a1 b1) (two r s hr hs) (by rw [List.append_nil]; exact h)).2.2
    cases h
  exact ⟨by rw [bad_step f5, bad_step f5, m_law_l10], by rw [bad_step f1, bad_step f2, bad_step f3, bad_step f4, bad_step f5, m_law_l10]⟩
theorem k12_ok (ns : Ro Int) {x : Int} (x0 : 0 ≤ x) (cell : Int) {k : Nat} {d : D} (td : Td k d) (hl : (formD d).length ≤ 40000) (g : Unit → Res Bool) : m_law_k12 ns x cell (sT (toD (formD d))) g () = g () := by
  obtain ⟨c9, d9⟩ := cell_ex ns (show (0 : Int) ≤ 9 + x by omega)
  obtain ⟨c12, d12⟩ := cell_ex ns (show (0 : Int) ≤ 12 + x by omega)
  obtain ⟨m, em, cs, e, m0, mk⟩ := p520
  have h0 := Int.emod_nonneg cell (show (256 : Int) ≠ 0 by decide)
  have h1 := Int.emod_lt_of_pos cell (show (0 : Int) < 256 by decide)
  have t1 : m_u_law_told 1 (toD (formD d ++ [cell % 256])) = .ok sF := t1_f (more_f td hl h0 (by omega))
  have a0 := Int.emod_nonneg (c9.natAbs : Int) (Int.ne_of_gt m0)
  have a2 := Int.emod_lt_of_pos (c9.natAbs : Int) m0
  have b0 := Int.emod_nonneg (c12.natAbs : Int) (show (512 : Int) ≠ 0 by decide)
  have b2 := Int.emod_lt_of_pos (c12.natAbs : Int) (show (0 : Int) < 512 by decide)
  have cs9 : CShl (1 : Int) (9 : Int) := cshl' (k := 9) (by decide)
  have p9 : (1 : Int) * 2 ^ (9 : Int).toNat = 512 := by decide
  have a1 : Builtin.Int.intBits ((c9.natAbs : Int) % m) ≤ 520 := bits520 a0 (by rw [← em]; exact a2)
  have b1 : Builtin.Int.intBits ((c12.natAbs : Int) % 512) ≤ 520 := bits520 b0 (by
    have := mk 9 (by decide)
    rw [← em]
    have : (2 : Int) ^ 9 = 512 := by decide
    omega)
  unfold m_law_k12
  dsimp only
  rw [Res.bind_ok, show D.asInts (toD (formD d)) = .ok (formD d) from asInts_toD _, Res.bind_ok, Res.need_pos (by rw [List.length_singleton]; omega), Res.bind_ok]
  simp only [Res.bind_ok]
  rw [t1, Res.bind_ok, Res.need_pos ⟨sF_q.1, sF_q.2.1⟩, Res.bind_ok, sF_q.2.2, Bool.not_true, cond_false, d9, d12]
  simp only [Res.bind_ok, Res.need_pos cs, e, Res.need_pos m0, Res.need_pos cs9, p9, Res.need_pos (show (0 : Int) < 512 by decide)]
  generalize (c9.natAbs : Int) % m = a at *
  generalize (c12.natAbs : Int) % 512 = b at *
  have lp := pairF_len a1 b1
  have tw := td_two a0 a1 b0 b1
  have one : Builtin.Int.intBits (1 : Int) ≤ 520 := bits520 (by decide) (by decide +kernel)
  have five : Builtin.Int.intBits (5 : Int) ≤ 520 := bits520 (by decide) (by decide +kernel)
  have w : m_u_law_told 2 (toD (T2.mk a b)) = .ok (sT (toD (pairF a b))) := t2_ok (wpair2_ok a0 a1 b0 b1)
  have lt : m_u_law_tree 12 (toD (T2.mk a b)) = .ok (pairF a b) := by
    have := ltreeD_ok 12 1 _ (by decide) tw (by rw [form_two]; omega)
    rw [form_two] at this; exact this
  have r : m_u_law_told 3 (toD (pairF a b)) = .ok (sT (toD (T2.mk a b))) := t3_ok (rp_fwd a0 a1 b0 b1)
  rw [w, Res.bind_ok, lt]
  simp only [Res.bind_ok]
  have q1 : (toD (sT (toD (pairF a b)))).okq = true := okq_li _
  have q2 : (toD (T2.mk ("told" : Str) (pairF a b))).okq = true := okq_li _
  have q3 : pyEq (toD (sT (toD (pairF a b)))) (toD (T2.mk ("told" : Str) (pairF a b))) = true := eq_li _ _
  rw [Res.need_pos ⟨q1, q2⟩, Res.bind_ok, q3, Bool.not_true, cond_false]
  rw [show D.asList (toD (pairF a b)) = .ok ((pairF a b).map D.int) from rfl]
  simp only [Res.bind_ok]
  have r' : m_u_law_told 3 (toD ((pairF a b).map D.int)) = .ok (sT (toD (T2.mk a b))) := by
    have e : (toD ((pairF a b).map D.int) : D) = toD (pairF a b) := by
      show D.lst (((pairF a b).map D.int).map fun x => x) = _
      rw [List.map_id']; rfl
    rw [e]; exact r
  rw [r', Res.bind_ok]
  have q4 : (toD (sT (toD (T2.mk a b)))).okq = true := okq_td tw (by decide)
  have q5 : (toD (T2.mk ("told" : Str) (T2.mk a b))).okq = true := okq_td tw (by decide)
  have q6 : pyEq (toD (sT (toD (T2.mk a b)))) (toD (T2.mk ("told" : Str) (T2.mk a b))) = true := eq_td tw _
  rw [Res.need_pos ⟨q4, q5⟩, Res.bind_ok, q6, Bool.not_true, cond_false]
  have la := numF_len a1
  have lb := numF_len b1
  have l1 := numF_len one
  have x1 : m_u_law_tree 12 (toD (T3.mk a b (T1.mk (1 : Int)).a)) = .ok (encF 48 (numF a ++ (numF b ++ numF 1))) := by
    have f : formD (D.tup [D.int a, D.int b, D.int 1]) = encF 48 (numF a ++ (numF b ++ numF 1)) := by
      show encF 48 (numF a ++ (numF b ++ (numF 1 ++ []))) = _
      rw [List.append_nil]
    have el := encF_len 48 (numF a ++ (numF b ++ numF 1))
    simp only [List.length_append] at el
    have := ltreeD_ok 12 1 (D.tup [D.int a, D.int b, D.int 1]) (by decide) (.tup (by show 3 ≤ 60000; decide) fun z hz => by
      rcases List.mem_cons.mp hz with rfl | hz
      · exact .num a0 a1
      rcases List.mem_cons.mp hz with rfl | hz
      · exact .num b0 b1
      · cases List.mem_singleton.mp hz; exact .num (by decide) one) (by rw [f]; omega)
    rw [f] at this; exact this
  have x2 : m_u_law_tree 12 (toD (T1.mk a)) = .ok (encF 48 (numF a)) := by
    have f : formD (D.tup [D.int a]) = encF 48 (numF a) := by
      show encF 48 (numF a ++ []) = _
      rw [List.append_nil]
    have el := encF_len 48 (numF a)
    have := ltreeD_ok 12 1 (D.tup [D.int a]) (by decide) (.tup (by show 1 ≤ 60000; decide) fun z hz => by
      cases List.mem_singleton.mp hz; exact .num a0 a1) (by rw [f]; omega)
    rw [f] at this; exact this
  have x3 : m_u_law_tree 12 (toD (T2.mk (T2.mk a b) (1 : Int))) = .ok (encF 48 (pairF a b ++ numF 1)) := by
    have f : formD (D.tup [D.tup [D.int a, D.int b], D.int 1]) = encF 48 (pairF a b ++ numF 1) := by
      show encF 48 (formD (D.tup [D.int a, D.int b]) ++ (numF 1 ++ [])) = _
      rw [List.append_nil, form_two]
    have el := encF_len 48 (pairF a b ++ numF 1)
    simp only [List.length_append] at el
    have := ltreeD_ok 12 2 (D.tup [D.tup [D.int a, D.int b], D.int 1]) (by decide) (.tup (by show 2 ≤ 60000; decide) fun z hz => by
      rcases List.mem_cons.mp hz with rfl | hz
      · exact tw
      · cases List.mem_singleton.mp hz; exact .num (by decide) one) (by rw [f]; omega)
    rw [f] at this; exact this
  rw [x1, x2, x3, lform2_ok (by decide) five, show D.asInts (toD (pairF a b)) = .ok (pairF a b) from asInts_toD _]
  simp only [Res.bind_ok]
  rw [Res.need_pos (by show _ + 1 ≤ 16777216; omega)]
  simp only [Res.bind_ok]
  rw [(pairs_ok a0 a1 b0 b1 _).2, k11_ok b0]
theorem k2_ok (ns : Ro Int) {x : Int} (x0 : 0 ≤ x) (cell : Int) {d : D} (td : Td 11 d) (nr : Nar d) (hp : partD d ≤ 900) (g : Unit → Res Bool) : m_law_k2 ns x cell g d = g () := by
  obtain ⟨c6, d6⟩ := cell_ex ns (show (0 : Int) ≤ 6 + x by omega)
  have hl := formD_len td
  have wt := wtree_ok td (by decide) (by omega)
  have rt := rt_fwd td nr (by omega)
  have lt := ltreeD_ok 12 11 d (by decide) td (by omega)
  unfold m_law_k2
  by_cases q : deepD d ≤ 8 ∧ partD d ≤ 64
  · rw [if_pos q] at wt rt
    have td8 := td_mono (td_tight td) q.1
    have fl := formD_byt td (by omega)
    have f1 : 1 ≤ (formD d).length := by rw [form_tc td]; have := encF_len (tagD d) (conD d); omega
    obtain ⟨near, en, nb, nl⟩ := near_ok fl (by omega) f1 (c := (c6.natAbs : Int)) (by omega)
    rw [t0_ok wt, Res.bind_ok, ldeep_ok 12 11 d (by decide) td, Res.bind_ok, Res.bind_ok, decide_eq_false (by omega), cond_false, lparts_ok 12 11 d (by decide) td, Res.bind_ok, Res.bind_ok, decide_eq_false (by omega), cond_false]
    rw [show ((sT (toD (formD d))).a == ("told" : Str)) = true from (by decide +kernel : (("told" : Str) == ("told" : Str)) = true), Bool.not_true, cond_false, lt]
    simp only [Res.bind_ok]
    rw [show m_u_law_is_list (sT (toD (formD d))).b (formD d) = .ok true from islist_ok _, Res.bind_ok, Res.bind_ok, Bool.not_true, cond_false]
    rw [show D.asList (sT (toD (formD d))).b = .ok ((formD d).map D.int) from rfl]
    simp only [Res.bind_ok]
    have r' : m_u_law_told 1 (toD ((formD d).map D.int)) = .ok (sT d) := by
      have e : (toD ((formD d).map D.int) : D) = toD (formD d) := by
        show D.lst (((formD d).map D.int).map fun x => x) = _
        rw [List.map_id']; rfl
      rw [e]; exact t1_ok rt
    rw [r', Res.bind_ok]
    have q4 : (toD (sT d)).okq = true := okq_td td8 (by decide)
    have q6 : pyEq (toD (sT d)) (toD (T2.mk ("told" : Str) d)) = true := eq_td td8 _
    rw [Res.need_pos ⟨q4, q4⟩, Res.bind_ok, q6, Bool.not_true, cond_false]
    rw [show D.asInts (sT (toD (formD d))).b = .ok (formD d) from asInts_toD _, d6]
    simp only [Res.bind_ok]
    rw [en, Res.bind_ok, near_steps nb nl, k12_ok ns x0 cell td8 (by omega)]
  · rw [if_neg q] at wt rt
    have t1 : m_u_law_told 1 (toD (formD d)) = .ok sF := t1_f rt
    have big : (cond (decide ((8 : Int) < ((deepD d : Nat) : Int))) (Res.ok true) ((Res.ok ((partD d : Nat) : Int)).bind fun (t : Int) => Res.ok (decide ((64 : Int) < t)))) = .ok true := by
      by_cases a : deepD d ≤ 8
      · rw [decide_eq_false (by omega), cond_false, Res.bind_ok, decide_eq_true (by omega)]
      · rw [decide_eq_true (by omega), cond_true]
    rw [t0_r wt, Res.bind_ok, ldeep_ok 12 11 d (by decide) td, Res.bind_ok, Res.bind_ok, lparts_ok 12 11 d (by decide) td, big, Res.bind_ok, cond_true]
    rw [Res.need_pos ⟨sR_q.1, sR_q.2.1⟩, Res.bind_ok, sR_q.2.2, Bool.not_true, cond_false, lt, Res.bind_ok, t1, Res.bind_ok, Res.need_pos ⟨sF_q.1, sF_q.2.1⟩, Res.bind_ok, sF_q.2.2, Bool.not_true, cond_false]
theorem l31_step (ns : Ro Int) (kk : Unit → Res Bool) (x : Int) (x0 : 0 ≤ x) (r : List Int) : m_law_l1 ns kk (x :: r) () = m_law_l1 ns kk r () := by
  obtain ⟨c0, d0⟩ := cell_ex ns x0
  obtain ⟨c3, d3⟩ := cell_ex ns (show (0 : Int) ≤ 3 + x by omega)
  obtain ⟨d, ev, td, nr, hp⟩ := lval_ok 12 9 90 (c0.natAbs : Int) 1 (by decide) (by decide)
  obtain ⟨d', ew, td', nr', hp'⟩ := wide_ok (c := (c3.natAbs : Int)) (by omega)
  have ev : m_u_law_value 12 (c0.natAbs : Int) 1 9 90 = .ok d := ev
  rw [m_law_l1]
  dsimp only
  rw [d0]
  simp only [Res.bind_ok]
  rw [ev]
  simp only [Res.bind_ok]
  by_cases z : (c0.natAbs : Int) % 4 = 1
  · rw [decide_eq_true z, cond_true, d3]
    simp only [Res.bind_ok]
    rw [ew, Res.bind_ok, k2_ok ns x0 _ td' nr' hp']
  · rw [decide_eq_false z, cond_false, k2_ok ns x0 _ (td_mono td (by decide)) nr (Nat.le_trans hp bnd_top)]
theorem law_true (ns : Ro Int) (_ : ns.xs.length ≤ 63) (_ : ∀ i ∈ ns.xs, Builtin.Int.intBits i ≤ 1048576) : m_law ns = .ok true := by
  unfold m_law
  rw [Res.need_pos ⟨by decide, by decide⟩, Res.bind_ok, show pyRange 0 3 = [0, 1, 2] from rfl, l31_step _ _ _ (by decide), l31_step _ _ _ (by decide), l31_step _ _ _ (by decide), m_law_l1]
  rfl
end Mi
open PySem PySem.W PySem.Calls PyProof.Rows
theorem PySem.Challenge.cw_curveseal_k31_trees_and_pairs_holds : PySem.Challenge.rw_curveseal_k31_trees_and_pairs.Holds := by
  w_on; o_law
  refine Mi.head_pieces (r := OpenLaw.row PySem.Challenge.rw_curveseal_k31_trees_and_pairs) (q := view (OpenLaw.row PySem.Challenge.rw_curveseal_k31_trees_and_pairs).prog [53]) (H := Mi.hk) (ob := Mi.ob) (N := 20000000) (k := Mi.fuelQ) (x := Mi.S_x) (s' := Mi.S_f) (loose := (["is_whole", "to_little", "to_big", "from_big", "is_bytes", "write_length", "read_length", "write_number", "_number_content", "_part", "write_pair", "read_pair", "_only_part", "_split_parts", "_number", "write_tree", "_levels", "_part_count", "_tree_part", "read_tree", "_tree_value", "_law_cell", "_law_twice", "_law_bytes", "_law_integer"] : List Str) ++ (["_law_is_list", "_law_length", "_law_form", "_law_tree", "_law_value", "_law_deep", "_law_parts", "_law_call", "_law_told", "_law_wide", "_law_near", "_law_is_number", "_law_fits", "_law_right", "CurveError", "OutOfRange", "Malformed", "NUMBER_TAG", "SEQUENCE_TAG", "LONGEST_CONTENT", "MOST_BITS", "LONGEST_NUMBER", "MOST_LEVELS", "MOST_PARTS"] : List Str)) (d := HandSHeadRun.topDef (OpenLaw.row PySem.Challenge.rw_curveseal_k31_trees_and_pairs).prog 53) (kwd := []) Mi.ob_eq (by kernel_rfl) Mi.runw_ Mi.lk1_ Mi.lk2_ Mi.lk3_ (by kernel_rfl) (by kernel_rfl) (by kernel_rfl) (by rfl) (by first | assumption | decide +kernel) (by decide +kernel) ⟨rfl, rfl, rfl, rfl, rfl, by decide +kernel⟩ ?hw ?hc
  case hw => w_witness2
  case hc =>
    refine Mi.walk_end (l := PySem.Challenge.rw_curveseal_k31_trees_and_pairs) (n := 63) (k := 22) (x := "script") (m := Mi.m_law) rfl (by decide) (by kernel_rfl) ⟨rfl, by decide, by decide⟩ ?F (fun ns h1 h2 => Mi.law_true ⟨ns⟩ h1 h2)
    intro w mg fa h Y G hmg0
    obtain ⟨K, KX, c⟩ := Y
    have hmg : mg ("law" : PySem.Str) = some (.ref fa) := by
      have e : (HandSHeadRun.topDef (OpenLaw.row PySem.Challenge.rw_curveseal_k31_trees_and_pairs).prog 53).name = ("law" : PySem.Str) := by kernel_rfl
      rw [← e]
      exact hmg0
    have T := Mi.facts_of KX G c
    have ea := hmg.symm.trans T.g_law
    cases ea
    obtain ⟨fd, FL⟩ := T.d_law
    have b := L2.FunD.bindsA (ps := ["script"]) FL fun _ _ _ _ _ _ us hl => match us, hl with | [_], _ => rfl
    exact ⟨K, fd, KX, fun s u => b s [u] rfl, fun base _ _ => Mi.ok_law T FL⟩
